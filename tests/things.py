"""Things of all kinds that the interface names, and plans of given shapes, for the tests."""


def nested(depth, wrap):
    """A thing in which `wrap` stands so deep in itself."""
    thing = wrap(None)
    for _ in range(depth):
        thing = wrap(thing)
    return thing


def strange_things():
    """Things that are right in no place of a plan, and no name, letter or plan; made anew each time."""
    return [
        None, True, False, -1, -10 ** 9, 10 ** 9 + 1, 10 ** 30,
        "", " ", "A", "7", "abcdefghi", "a b", "a\n", "\ta", "-",
        [], [[]], ["a"], ["worker", "a", "always"], [1, [2, [3]]], [None, True, {"a": []}],
        (), ((),), (None,), (1, 2, 3), ("a",), ("a", ("b", ("c", ()))), ([],), ({},),
        {}, {"a": 1}, {"a": {"b": [()]}}, {1: None}, {(): []},
        nested(40, lambda thing: [thing]), nested(40, lambda thing: (thing,)), nested(40, lambda thing: {"a": thing}),
    ]


def deep_things():
    """Things nested deeper than Python's own limit of calls."""
    return [
        nested(5000, lambda thing: [thing]),
        nested(5000, lambda thing: (thing,)),
        nested(5000, lambda thing: {"a": thing}),
        nested(5000, lambda thing: ("add", thing)),
        nested(5000, lambda thing: ("worker", "a", thing)),
        nested(5000, lambda thing: ("warden", "a", "one", 1, 1, (thing,))),
        nested(5000, lambda thing: ("warden", "a", "one", 1, 1, thing)),
        chain(5000),
    ]


def name(number):
    """A name for each number from 0 to 675."""
    letters = "abcdefghijklmnopqrstuvwxyz"
    return letters[number // 26 % 26] + letters[number % 26]


def worker(label, again="always"):
    return ("worker", label, again)


def warden(label, *parts, rule="one", many=1, span=10):
    return ("warden", label, rule, many, span, parts)


def beneath(wardens, part):
    """The part beneath so many wardens, each in the next one."""
    for number in range(600, 600 + wardens):
        part = warden(name(number), part)
    return part


def chain(wardens):
    """One worker beneath so many wardens, each in the next one."""
    return beneath(wardens, worker("w"))


def side_by_side(count):
    """A plan of so many names (2 to 73): the top, up to eight wardens beneath it, and workers beneath these."""
    labels = [name(number) for number in range(count)]
    if count <= 9:
        return warden(labels[0], *[worker(label) for label in labels[1:]])
    workers = labels[9:]
    groups = [workers[at::8] for at in range(8)]
    parts = [
        warden(label, *[worker(inner) for inner in group]) if group else worker(label)
        for label, group in zip(labels[1:9], groups)
    ]
    return warden(labels[0], *parts)


SAMPLE = warden(
    "top",
    worker("w", "never"),
    warden("mid", worker("x", "faulted"), warden("low", worker("y"), rule="all", many=0, span=1), rule="rest", many=3),
    worker("z"),
    rule="one", many=10 ** 9, span=10 ** 9,
)
SAMPLE_NAMES = ["top", "w", "mid", "x", "low", "y", "z"]

WORKER_PLACES = ("worker", "name", "again")
WARDEN_PLACES = ("warden", "name", "rule", "many", "span", "parts")


def places(part, path=()):
    """Each place of a part as (the way to it, its kind), the part itself and all beneath it included."""
    found = [(path, "part")]
    kinds = WORKER_PLACES if part[0] == "worker" else WARDEN_PLACES
    found.extend((path + (at,), kind) for at, kind in enumerate(kinds))
    if part[0] == "warden":
        for at, inner in enumerate(part[5]):
            found.extend(places(inner, path + (5, at)))
    return found


def at_path(plan, path):
    for at in path:
        plan = plan[at]
    return plan


def replaced(plan, path, thing):
    """The plan with another thing in the place."""
    if not path:
        return thing
    at = path[0]
    return plan[:at] + (replaced(plan[at], path[1:], thing),) + plan[at + 1:]


def rows(text):
    """The events that a short text tells: "begins top, sent a 1 add 5, lost a 1"."""
    return [row_event(row.split()) for row in text.split(",") if row.strip()]


def row_event(words):
    event = tuple(words[:2]) + tuple(int(word) for word in words[2:3])
    if words[0] == "sent":
        event += ((words[3],) + tuple(int(word) for word in words[4:]),)
    return event


def asked(house, plan):
    """Everything that a house tells, refusals included."""
    found = [house.is_open(), house.hour(), house.here(), house.history()]
    for label in names_in(plan):
        for question in (house.waits, house.sum_of, house.hours):
            found.append(answer(question, label))
    # Copies: a list that the house kept would change along with what it's compared with later.
    return [list(thing) if isinstance(thing, list) else thing for thing in found]


def answer(question, *things):
    """What is answered, or the class by which it is refused."""
    try:
        return question(*things)
    except ValueError as refusal:
        return type(refusal)


def names_in(part):
    names = [part[1]]
    if part[0] == "warden":
        for inner in part[5]:
            names += names_in(inner)
    return names


def workers_in(part):
    """The names of the workers, in the order of the plan."""
    if part[0] == "worker":
        return [part[1]]
    return [label for inner in part[5] for label in workers_in(inner)]


class Chances:
    """Numbers as if by chance, but the same in each run."""

    def __init__(self, seed):
        self.state = seed * 7919 + 12345

    def below(self, limit):
        self.state = (self.state * 6364136223846793005 + 1442695040888963407) % 2 ** 64
        return (self.state >> 33) % limit

    def one_of(self, things):
        return things[self.below(len(things))]


MANIES = (0, 1, 1, 2, 3, 9, 10 ** 9)
SPANS = (1, 2, 3, 5, 9, 30, 10 ** 9)
CHANCE_LETTERS = (
    ("add", 1), ("add", -7), ("add", 10 ** 9), ("add", 0), ("add", -10 ** 9), ("fault",), ("fault",), ("leave",),
)


def chance_plan(chances, most=20):
    """A plan of at most so many names."""
    labels = [name(number) for number in range(most)]
    top = labels.pop(0)
    return chance_warden(chances, top, labels, 0)


def chance_warden(chances, label, labels, above):
    parts = []
    for _ in range(1 + chances.below(5)):
        if not labels and parts:
            break
        parts.append(chance_part(chances, labels.pop(0), labels, above + 1))
    rule = chances.one_of(("one", "rest", "all"))
    return warden(label, *parts, rule=rule, many=chances.one_of(MANIES), span=chances.one_of(SPANS))


def chance_part(chances, label, labels, above):
    if above < 6 and labels and chances.below(3) == 0:
        return chance_warden(chances, label, labels, above)
    return worker(label, chances.one_of(("always", "faulted", "never")))


def chance_deed(chances, house, plan):
    """A deed as (word, name) or (word, name, letter), mostly one that the house takes."""
    labels = names_in(plan)
    workers = workers_in(plan)
    if chances.below(8):
        labels = [label for label in labels if label in house.here()] or labels
        workers = [label for label in workers if label in house.here()] or workers
    luck = chances.below(12)
    if luck < 5:
        return ("send", chances.one_of(workers), chances.one_of(CHANCE_LETTERS))
    if luck < 11:
        waited_for = [label for label in workers if house.waits(label)]
        return ("work", chances.one_of(waited_for or workers))
    return ("fail", chances.one_of(labels if chances.below(9) == 0 else labels[1:] or labels))


def done(house, deed):
    """What the house answers to a deed, a refusal's class included."""
    question = {"send": house.send, "work": house.work, "fail": house.fail}[deed[0]]
    return answer(question, *deed[1:])
