"""Names, letters and plans: which things are such, and which are not."""

LONGEST_NAME = 8
LARGEST = 10 ** 9
MOST_PARTS = 8
MOST_NAMES = 60
MOST_WARDENS_ABOVE = 6

AGAINS = ("always", "faulted", "never")
RULES = ("one", "rest", "all")
PLAIN_LETTERS = (("fault",), ("leave",))


def is_name(thing):
    """True just of a text of 1 to 8 signs, each a small letter a to z."""
    if not isinstance(thing, str) or not 1 <= len(thing) <= LONGEST_NAME:
        return False
    return all(["a" <= sign <= "z" for sign in thing])


def is_letter(thing):
    """True just of a letter."""
    if not isinstance(thing, tuple):
        return False
    if len(thing) == 2:
        return thing[0] == "add" and _is_number(thing[1], -LARGEST, LARGEST)
    return thing in PLAIN_LETTERS


def is_plan(thing):
    """True just of a plan."""
    return _is_warden(thing) and _fits(thing, 0, [])


def names_of(plan):
    """The list of all names, in the order of the plan."""
    names = [plan[1]]
    for part in parts_of(plan):
        names.extend(names_of(part))
    return names


def parts_of(part):
    """The parts straight beneath a part; a worker has none."""
    return part[5] if part[0] == "warden" else ()


def _is_number(thing, low, high):
    # Python takes True and False for ints; the document does not.
    if not isinstance(thing, int) or isinstance(thing, bool):
        return False
    return low <= thing <= high


def _is_worker(thing):
    """True of a worker."""
    if not isinstance(thing, tuple) or len(thing) != 3:
        return False
    word, name, again = thing
    return word == "worker" and is_name(name) and again in AGAINS


def _is_warden(thing):
    """True of a warden, as far as can be seen without a look into its parts."""
    if not isinstance(thing, tuple) or len(thing) != 6:
        return False
    word, name, rule, many, span, parts = thing
    if word != "warden" or not is_name(name) or rule not in RULES:
        return False
    if not _is_number(many, 0, LARGEST) or not _is_number(span, 1, LARGEST):
        return False
    return isinstance(parts, tuple) and 1 <= len(parts) <= MOST_PARTS


def _fits(part, above, names):
    """True where the part, beneath so many wardens, and all beneath it belong in a plan.

    Their names go behind those that were met ahead of them.
    """
    # Depth and names are asked ahead of the parts: so the walk ends soon, however deep a thing is.
    if above > MOST_WARDENS_ABOVE or len(names) == MOST_NAMES:
        return False
    if not _is_worker(part) and not _is_warden(part):
        return False
    if part[1] in names:
        return False
    names.append(part[1])
    for inner in parts_of(part):
        if not _fits(inner, above + 1, names):
            return False
    return True
