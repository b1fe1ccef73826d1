"""A house told once more, plainly and slowly, to compare the program with.

All letters stand in one list with what became of them, hours are never thrown away, and a fault goes up in a loop.
"""

from wardhouse.errors import BadLetter, Closed, Gone, Nothing, Stranger
from wardhouse.plans import is_letter


class Model:
    def __init__(self, plan):
        self.part = {}
        self.boss = {}
        self.note(plan, None)
        self.top = plan[1]
        self.present = set()
        self.sums = {}
        self.kept = {}
        self.letters = []
        self.now = 0
        self.log = []
        self.start(self.top)

    def copy(self):
        other = Model(self.part[self.top])
        other.present = set(self.present)
        other.sums = dict(self.sums)
        other.kept = {name: list(hours) for name, hours in self.kept.items()}
        other.letters = [dict(letter) for letter in self.letters]
        other.now = self.now
        other.log = list(self.log)
        return other

    def note(self, part, boss):
        self.part[part[1]] = part
        self.boss[part[1]] = boss
        for inner in part[5] if part[0] == "warden" else ():
            self.note(inner, part[1])

    def parts(self, name):
        return [inner[1] for inner in self.part[name][5]] if self.part[name][0] == "warden" else []

    def start(self, name):
        self.log.append(("begins", name))
        self.present.add(name)
        self.sums[name] = 0
        self.kept[name] = []
        for inner in self.parts(name):
            self.start(inner)

    def stop(self, names):
        for name in names[::-1]:
            if name in self.present:
                self.stop(self.parts(name))
                self.present.remove(name)
                self.log.append(("ends", name))

    def counted(self, name):
        return [hour for hour in self.kept[name] if self.now - hour < self.part[name][4]]

    def never(self, name):
        return self.part[name][0] == "worker" and self.part[name][2] == "never"

    def gone_by(self, word, name):
        while True:
            self.log.append((word, name))
            self.present.remove(name)
            self.stop(self.parts(name))
            if name == self.top or self.never(name) or (word == "leaves" and self.part[name][2] != "always"):
                return
            boss = self.boss[name]
            self.kept[boss].append(self.now)
            if len(self.counted(boss)) <= self.part[boss][3]:
                self.anew(boss, name)
                return
            word, name = "fails", boss

    def anew(self, boss, failed):
        names = self.parts(boss)
        at = names.index(failed)
        rule = self.part[boss][2]
        chosen = {"one": names[at:at + 1], "rest": names[at:], "all": names}[rule]
        were_here = [name for name in chosen if name in self.present]
        self.stop(chosen)
        for name in chosen:
            if name == failed or (name in were_here and not self.never(name)):
                self.start(name)

    def lose(self):
        for name, part in self.part.items():
            if part[0] == "worker" and name not in self.present:
                for letter in self.letters:
                    if letter["to"] == name and letter["fate"] == "waits":
                        letter["fate"] = "lost"
                        self.log.append(("lost", name, letter["number"]))

    def check(self, name, kind=None):
        if not isinstance(name, str) or name not in self.part or kind not in (None, self.part[name][0]):
            raise Stranger("stranger")

    def check_here(self, name):
        if name not in self.present:
            raise Gone("gone")

    def check_open(self):
        if self.top not in self.present:
            raise Closed("closed")

    def send(self, name, letter):
        self.check_open()
        if not is_letter(letter):
            raise BadLetter("letter")
        self.check(name, "worker")
        self.check_here(name)
        number = len(self.letters) + 1
        self.letters.append({"to": name, "number": number, "letter": letter, "fate": "waits"})
        self.log.append(("sent", name, number, letter))
        return number

    def work(self, name):
        self.check_open()
        self.check(name, "worker")
        self.check_here(name)
        waiting = [letter for letter in self.letters if letter["to"] == name and letter["fate"] == "waits"]
        if not waiting:
            raise Nothing("nothing")
        before = len(self.log)
        self.now += 1
        first = waiting[0]
        first["fate"] = "worked"
        self.log.append(("works", name, first["number"]))
        word = first["letter"][0]
        if word == "add":
            self.sums[name] += first["letter"][1]
        else:
            self.gone_by({"fault": "fails", "leave": "leaves"}[word], name)
        self.lose()
        return self.log[before:]

    def fail(self, name):
        self.check_open()
        self.check(name)
        self.check_here(name)
        before = len(self.log)
        self.now += 1
        self.gone_by("fails", name)
        self.lose()
        return self.log[before:]

    def is_open(self):
        return self.top in self.present

    def hour(self):
        return self.now

    def here(self):
        return [name for name in self.part if name in self.present]

    def history(self):
        return list(self.log)

    def waits(self, name):
        self.check(name, "worker")
        return [letter["number"] for letter in self.letters if letter["to"] == name and letter["fate"] == "waits"]

    def sum_of(self, name):
        self.check(name, "worker")
        self.check_here(name)
        return self.sums[name]

    def hours(self, name):
        self.check(name, "warden")
        self.check_here(name)
        return self.counted(name)
