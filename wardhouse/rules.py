"""The rules of who begins anew with whom, and which hours count."""


def counting(hours, now, span):
    """The list of those hours that are greater than now less span, in their order."""
    return [hour for hour in hours if hour > now - span]


def named(rule, size, at):
    """The list of the places of which the rule tells, rising.

    There are so many parts as size says; the part at the place failed.
    """
    if rule == "one":
        return [at]
    if rule == "rest":
        return list(range(at, size))
    return list(range(size))
