"""Texts of events: a row of words for each event, and back."""

from wardhouse.errors import BadText
from wardhouse.plans import LARGEST, PLAIN_LETTERS, is_name

# Words of events that have a name alone, and of those that have a letter's number behind it.
NAMED = ("begins", "ends", "leaves", "fails")
NUMBERED = ("works", "lost")
MOST_FIGURES = 10


def told(events):
    """The text of a list of events."""
    return "".join([_row(event) + "\n" for event in events])


def read(text):
    """The list of the events that a text tells."""
    if not isinstance(text, str):
        raise BadText("this is no text")
    rows = text.split("\n")
    if rows[-1] != "":
        raise BadText("the last row has no line end")
    return [_event(row.split(" ")) for row in rows[:-1]]


def _row(event):
    """The row of an event, without its line end."""
    words = list(event[:3])
    if event[0] == "sent":
        words.extend(event[3])
    return " ".join([str(word) for word in words])


def _event(words):
    """The event that the words of a row tell."""
    if len(words) < 2 or not is_name(words[1]):
        raise BadText("a row has a word and a name")
    word = words[0]
    name = words[1]
    if word in NAMED and len(words) == 2:
        return (word, name)
    if word in NUMBERED and len(words) == 3:
        return (word, name, _number(words[2], 1))
    if word == "sent" and len(words) > 3:
        return (word, name, _number(words[2], 1), _letter(words[3:]))
    raise BadText("a row has the words of an event")


def _letter(words):
    """The letter that the words at the end of a row tell."""
    if len(words) == 2 and words[0] == "add":
        return ("add", _number(words[1], -LARGEST))
    letter = tuple(words)
    if letter not in PLAIN_LETTERS:
        raise BadText("a letter has the words of one")
    return letter


def _number(word, low):
    """The whole number, from low to 10 ** 9, that the word tells."""
    figures = word.removeprefix("-")
    # int takes blanks, noughts ahead and more that the document does not, and refuses very long words.
    if len(figures) > MOST_FIGURES or not _are_figures(figures):
        raise BadText("a number is written in figures")
    number = int(word)
    if str(number) != word or not low <= number <= LARGEST:
        raise BadText("a number is written without noughts ahead and within its bounds")
    return number


def _are_figures(word):
    return word != "" and all(["0" <= sign <= "9" for sign in word])
