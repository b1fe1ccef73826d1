"""Which lists of events are the history of a house, and where others go wrong."""

from wardhouse.errors import BadHistory, HouseError
from wardhouse.houses import House


def judged(plan, events):
    """None where the list is the history of a house of the plan.

    Else the place of its first wrong event, or how many there are, where none is wrong.
    """
    return _replayed(House(plan), events)


def house_of(plan, events):
    """A house of the plan with just this history."""
    house = House(plan)
    if _replayed(house, events) is not None:
        raise BadHistory("this is not the history of a house of the plan")
    return house


def _replayed(house, events):
    """Does in a new house what the events tell; None where they are its history, else where they are not."""
    due = house.history()
    at = 0
    while due:
        wrong = _first_other(due, events, at)
        if wrong is not None:
            return wrong
        at += len(due)
        if at == len(events):
            return None
        due = _deed(house, events[at])
    return at


def _first_other(due, events, at):
    """The place of the first event, from the one at the place on, that isn't there or isn't the one that is due."""
    for place, event in enumerate(due, start=at):
        if place == len(events) or not _is_same(event, events[place]):
            return place
    return None


def _is_same(event, thing):
    # To Python True is equal to 1; to the document it is no number.
    return event == thing and not any([isinstance(word, bool) for word in thing])


def _deed(house, event):
    """Does the deed that begins with the event: its events, or none where the house can't do it."""
    if not isinstance(event, tuple):
        return []
    try:
        if len(event) == 4 and event[0] == "sent":
            number = house.send(event[1], event[3])
            return [("sent", event[1], number, event[3])]
        if len(event) == 3 and event[0] == "works":
            return house.work(event[1])
        if len(event) == 2 and event[0] == "fails":
            return house.fail(event[1])
    except HouseError:
        return []
    return []
