"""Houses: who is here, which letters wait, and what follows of each deed."""

from wardhouse.errors import BadLetter, BadPlan, Closed, Gone, Nothing, Stranger
from wardhouse.plans import is_letter, is_plan, parts_of
from wardhouse.rules import counting, named


class House:
    """A house of a plan: its parts, their letters, its hour and its history."""

    def __init__(self, plan):
        if not is_plan(plan):
            raise BadPlan("this is no plan")
        self._top = plan[1]
        # All by name, in the order of the plan. The letters that wait are pairs of a number and a letter.
        self._parts = {}
        self._wardens = {}
        self._here = {}
        self._waiting = {}
        self._sums = {}
        self._kept = {}
        self._hour = 0
        self._sent = 0
        self._history = []
        self._take_in(plan)
        self._begin(plan)

    def send(self, name, letter):
        """The number of the letter, which waits for the worker from now on."""
        self._refuse_when_closed()
        if not is_letter(letter):
            raise BadLetter("this is no letter")
        self._refuse_strange(name, self._waiting)
        self._refuse_gone(name)
        self._sent += 1
        self._waiting[name].append((self._sent, letter))
        self._history.append(("sent", name, self._sent, letter))
        return self._sent

    def work(self, name):
        """The events of this deed: the worker works on the letter that waits first."""
        self._refuse_when_closed()
        self._refuse_strange(name, self._waiting)
        self._refuse_gone(name)
        if not self._waiting[name]:
            raise Nothing("no letter waits for this worker")
        before = len(self._history)
        self._hour += 1
        number, letter = self._waiting[name].pop(0)
        self._history.append(("works", name, number))
        self._work_on(name, letter)
        self._lose_letters()
        return self._history[before:]

    def fail(self, name):
        """The events of this deed: the part fails by itself."""
        self._refuse_when_closed()
        self._refuse_strange(name, self._parts)
        self._refuse_gone(name)
        before = len(self._history)
        self._hour += 1
        self._fall(self._parts[name])
        self._lose_letters()
        return self._history[before:]

    def is_open(self):
        """True as long as the top warden is here."""
        return self._here[self._top]

    def hour(self):
        """The hour now."""
        return self._hour

    def here(self):
        """The list of the names of all parts that are here, in the order of the plan."""
        return [name for name in self._parts if self._here[name]]

    def history(self):
        """The list of all events."""
        return list(self._history)

    def waits(self, name):
        """The list of the numbers of the letters that wait for the worker, the first one first."""
        self._refuse_strange(name, self._waiting)
        return [pair[0] for pair in self._waiting[name]]

    def sum_of(self, name):
        """The sum of the worker."""
        self._refuse_strange(name, self._waiting)
        self._refuse_gone(name)
        return self._sums[name]

    def hours(self, name):
        """The list of the hours of the warden that count now, rising."""
        self._refuse_strange(name, self._kept)
        self._refuse_gone(name)
        return counting(self._kept[name], self._hour, self._parts[name][4])

    def _refuse_when_closed(self):
        if not self.is_open():
            raise Closed("the house is closed")

    def _refuse_strange(self, name, known):
        # Lists and dicts can't be looked up by their like, so only a text is looked up at all.
        if not isinstance(name, str) or name not in known:
            raise Stranger("the plan has no such name in this place")

    def _refuse_gone(self, name):
        if not self._here[name]:
            raise Gone("this part is not here")

    def _take_in(self, part):
        """The part and all beneath it are known to the house from now on; none of them has begun yet."""
        name = part[1]
        self._parts[name] = part
        if part[0] == "worker":
            self._waiting[name] = []
        for inner in parts_of(part):
            self._wardens[inner[1]] = part
            self._take_in(inner)

    def _begin(self, part):
        """The part begins, and all beneath it behind it."""
        name = part[1]
        self._history.append(("begins", name))
        self._here[name] = True
        if part[0] == "worker":
            self._sums[name] = 0
        else:
            self._kept[name] = []
        for inner in parts_of(part):
            self._begin(inner)

    def _end(self, part):
        """The part ends, and all beneath it ahead of it."""
        self._end_all(parts_of(part))
        self._go("ends", part)

    def _end_all(self, parts):
        """Those of the parts that are here end, the last one first."""
        for part in reversed(parts):
            if self._here[part[1]]:
                self._end(part)

    def _go(self, word, part):
        """The part is not here any more; the word says how this came."""
        self._history.append((word, part[1]))
        self._here[part[1]] = False

    def _work_on(self, name, letter):
        """What the letter asks of the worker happens."""
        part = self._parts[name]
        if letter[0] == "add":
            self._sums[name] += letter[1]
        elif letter[0] == "fault":
            self._fall(part)
        else:
            self._go("leaves", part)
            if part[2] == "always":
                self._follow(part)

    def _fall(self, part):
        """The part fails, and what follows of it happens."""
        self._go("fails", part)
        self._end_all(parts_of(part))
        if part[1] != self._top and not _is_never_again(part):
            self._follow(part)

    def _follow(self, part):
        """The warden of a part that failed keeps the hour, and fails itself or begins parts anew."""
        warden = self._wardens[part[1]]
        if self._keep_hour(warden) > warden[3]:
            self._fall(warden)
        else:
            self._begin_anew(warden, part)

    def _keep_hour(self, warden):
        """How many hours of the warden count, with the one now that it keeps."""
        kept = self._kept[warden[1]]
        kept.append(self._hour)
        # Hours are kept rising, and one that has ceased to count never counts again.
        while not counting(kept[:1], self._hour, warden[4]):
            kept.pop(0)
        return len(kept)

    def _begin_anew(self, warden, failed):
        """The parts that the warden's rule names end, and begin where they are to begin again."""
        parts = parts_of(warden)
        places = named(warden[2], len(parts), parts.index(failed))
        chosen = [parts[place] for place in places]
        again = [part for part in chosen if self._is_due_again(part, failed)]
        self._end_all(chosen)
        for part in again:
            self._begin(part)

    def _is_due_again(self, part, failed):
        """True of a part that is to begin behind the ending of those that a rule names."""
        if part[1] == failed[1]:
            return True
        return self._here[part[1]] and not _is_never_again(part)

    def _lose_letters(self):
        """The letters that wait for workers that are not here are lost."""
        for name in list(self._waiting):
            if not self._here[name]:
                for number in self.waits(name):
                    self._history.append(("lost", name, number))
                self._waiting[name] = []


def _is_never_again(part):
    """True of a worker of whose failing nothing follows."""
    return part[0] == "worker" and part[2] == "never"
