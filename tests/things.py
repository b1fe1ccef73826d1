"""Things of all kinds that the interface names, and plans of given shapes, for the tests."""


def nested(depth, wrap):
    """A thing in which `wrap` stands so deep in itself."""
    thing = wrap(None)
    for _ in range(depth):
        thing = wrap(thing)
    return thing


def strange_things():
    """Things that are right in no place of a plan, and no name, letter or plan; made anew each time."""
    return [
        None, True, False, -1, -10 ** 9, 10 ** 9 + 1, 10 ** 30,
        "", " ", "A", "7", "abcdefghi", "a b", "a\n", "\ta", "-",
        [], [[]], ["a"], ["worker", "a", "always"], [1, [2, [3]]], [None, True, {"a": []}],
        (), ((),), (None,), (1, 2, 3), ("a",), ("a", ("b", ("c", ()))), ([],), ({},),
        {}, {"a": 1}, {"a": {"b": [()]}}, {1: None}, {(): []},
        nested(40, lambda thing: [thing]), nested(40, lambda thing: (thing,)), nested(40, lambda thing: {"a": thing}),
    ]


def deep_things():
    """Things nested deeper than Python's own limit of calls."""
    return [
        nested(5000, lambda thing: [thing]),
        nested(5000, lambda thing: (thing,)),
        nested(5000, lambda thing: {"a": thing}),
        nested(5000, lambda thing: ("add", thing)),
        nested(5000, lambda thing: ("worker", "a", thing)),
        nested(5000, lambda thing: ("warden", "a", "one", 1, 1, (thing,))),
        nested(5000, lambda thing: ("warden", "a", "one", 1, 1, thing)),
        chain(5000),
    ]


def name(number):
    """A name for each number from 0 to 675."""
    letters = "abcdefghijklmnopqrstuvwxyz"
    return letters[number // 26 % 26] + letters[number % 26]


def worker(label, again="always"):
    return ("worker", label, again)


def warden(label, *parts, rule="one", many=1, span=10):
    return ("warden", label, rule, many, span, parts)


def beneath(wardens, part):
    """The part beneath so many wardens, each in the next one."""
    for number in range(600, 600 + wardens):
        part = warden(name(number), part)
    return part


def chain(wardens):
    """One worker beneath so many wardens, each in the next one."""
    return beneath(wardens, worker("w"))


def side_by_side(count):
    """A plan of so many names (2 to 73): the top, up to eight wardens beneath it, and workers beneath these."""
    labels = [name(number) for number in range(count)]
    if count <= 9:
        return warden(labels[0], *[worker(label) for label in labels[1:]])
    workers = labels[9:]
    groups = [workers[at::8] for at in range(8)]
    parts = [
        warden(label, *[worker(inner) for inner in group]) if group else worker(label)
        for label, group in zip(labels[1:9], groups)
    ]
    return warden(labels[0], *parts)


SAMPLE = warden(
    "top",
    worker("w", "never"),
    warden("mid", worker("x", "faulted"), warden("low", worker("y"), rule="all", many=0, span=1), rule="rest", many=3),
    worker("z"),
    rule="one", many=10 ** 9, span=10 ** 9,
)
SAMPLE_NAMES = ["top", "w", "mid", "x", "low", "y", "z"]

WORKER_PLACES = ("worker", "name", "again")
WARDEN_PLACES = ("warden", "name", "rule", "many", "span", "parts")


def places(part, path=()):
    """Each place of a part as (the way to it, its kind), the part itself and all beneath it included."""
    found = [(path, "part")]
    kinds = WORKER_PLACES if part[0] == "worker" else WARDEN_PLACES
    found.extend((path + (at,), kind) for at, kind in enumerate(kinds))
    if part[0] == "warden":
        for at, inner in enumerate(part[5]):
            found.extend(places(inner, path + (5, at)))
    return found


def at_path(plan, path):
    for at in path:
        plan = plan[at]
    return plan


def replaced(plan, path, thing):
    """The plan with another thing in the place."""
    if not path:
        return thing
    at = path[0]
    return plan[:at] + (replaced(plan[at], path[1:], thing),) + plan[at + 1:]
