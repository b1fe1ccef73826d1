"""The errors by which what can't be is refused."""


class HouseError(ValueError):
    """What every refusal of this package is."""


class BadPlan(HouseError):
    """What was handed in as a plan is none."""


class BadLetter(HouseError):
    """What was handed in as a letter is none."""


class Stranger(HouseError):
    """The name is none that the plan has in such a place."""


class Gone(HouseError):
    """The part is not here."""


class Nothing(HouseError):
    """No letter waits for the worker."""


class Closed(HouseError):
    """The house is not open."""


class BadHistory(HouseError):
    """The list is not the history of a house of the plan."""


class BadText(HouseError):
    """The text is not one of events."""
