"""What can't be is refused, and changes nothing [11]."""

import copy
import unittest

from tests.things import asked, deep_things, names_in, rows, strange_things, warden, worker, workers_in
from wardhouse.errors import BadLetter, Closed, Gone, Nothing, Stranger
from wardhouse.houses import House

PLAN = warden(
    "top", worker("a"), worker("gone", "never"), warden("in", worker("b"), worker("c", "faulted"), many=9),
    many=9, span=100)
WARDENS = ["top", "in"]
WORKERS = ["a", "gone", "b", "c"]
LETTER = ("add", 5)

STRANGE_NAMES = ["z", "aa", "ab", "tops", "to", "worker", "a ", " a", "A", "a\n", "abcdefgh"]
STRANGE_NAMES += [0, 1, ["a"], ("a",), {"a": "a"}, [["a"]], ("worker", "a", "always"), PLAN, list(PLAN)]
BAD_LETTERS = [
    ("add",), ("add", 10 ** 9 + 1), ("add", -10 ** 9 - 1), ("add", True), ("add", False), ("add", "5"), ("add", None),
    ("add", 5, 5), ("add", [5]), ["add", 5], ["fault"], "fault", "leave", "add 5", ("fault", 1), ("leave", None),
    ("Fault",), ("works",), ("fault", "leave"), (("fault",),), {"add": 5}, 5, 0,
]


def house_in_use():
    """An open house: gone is not here, a and b have letters that wait, hours have been kept."""
    house = House(PLAN)
    house.fail("gone")
    for label, letter in (("a", LETTER), ("a", ("fault",)), ("b", ("leave",)), ("a", LETTER), ("b", LETTER)):
        house.send(label, letter)
    house.work("a")
    house.fail("b")
    house.fail("a")
    return house


def closed_house():
    house = house_in_use()
    house.fail("top")
    return house


def strange_names():
    return strange_things() + deep_things() + STRANGE_NAMES


def bad_letters():
    return strange_things() + deep_things() + BAD_LETTERS


class Refusals(unittest.TestCase):
    def assert_refused(self, house, error, method, *things):
        before = asked(house, PLAN)
        with self.assertRaises(error) as held:
            getattr(house, method)(*things)
        self.assertIs(type(held.exception), error)
        self.assertEqual(asked(house, PLAN), before)


class ToSend(Refusals):
    def test_closed_ahead_of_all(self):
        house = closed_house()
        for label in WORKERS + WARDENS + ["z", None, [], ["a"], 5]:
            for letter in (LETTER, ("fault",), ("add", True), None, [], "fault"):
                self.assert_refused(house, Closed, "send", label, letter)
        for label in strange_names():
            self.assert_refused(house, Closed, "send", label, LETTER)
        for letter in bad_letters():
            self.assert_refused(house, Closed, "send", "a", letter)

    def test_bad_letter_alone(self):
        house = house_in_use()
        for letter in bad_letters():
            self.assert_refused(house, BadLetter, "send", "a", letter)

    def test_bad_letter_ahead_of_stranger(self):
        house = house_in_use()
        for letter in bad_letters():
            for label in ("z", "top", "in", None, ["a"], {}):
                self.assert_refused(house, BadLetter, "send", label, letter)
        for label in strange_names():
            self.assert_refused(house, BadLetter, "send", label, ("add", True))
            self.assert_refused(house, BadLetter, "send", label, label)

    def test_bad_letter_ahead_of_gone(self):
        house = house_in_use()
        for letter in bad_letters():
            self.assert_refused(house, BadLetter, "send", "gone", letter)

    def test_stranger_alone(self):
        house = house_in_use()
        for label in strange_names() + WARDENS:
            for letter in (LETTER, ("fault",), ("leave",)):
                self.assert_refused(house, Stranger, "send", label, letter)

    def test_gone_alone(self):
        house = house_in_use()
        for letter in (LETTER, ("fault",), ("leave",)):
            self.assert_refused(house, Gone, "send", "gone", letter)

    def test_a_refused_letter_takes_no_number(self):
        house = house_in_use()
        for label, letter in (("a", None), ("z", LETTER), ("gone", LETTER)):
            with self.assertRaises(ValueError):
                house.send(label, letter)
        self.assertEqual(house.send("a", LETTER), 6)


class ToWork(Refusals):
    def test_closed_ahead_of_all(self):
        house = closed_house()
        for label in strange_names() + WORKERS + WARDENS:
            self.assert_refused(house, Closed, "work", label)

    def test_stranger(self):
        house = house_in_use()
        for label in strange_names() + WARDENS:
            self.assert_refused(house, Stranger, "work", label)

    def test_gone_ahead_of_nothing(self):
        self.assert_refused(house_in_use(), Gone, "work", "gone")

    def test_nothing(self):
        house = house_in_use()
        self.assert_refused(house, Nothing, "work", "c")
        house.work("b")
        house.work("b")
        self.assert_refused(house, Nothing, "work", "b")
        for label in workers_in(PLAN):
            self.assert_refused(House(PLAN), Nothing, "work", label)

    def test_a_refused_deed_takes_no_hour(self):
        house = house_in_use()
        for label in ("z", "gone", "c"):
            with self.assertRaises(ValueError):
                house.work(label)
        self.assertEqual(house.hour(), 4)
        house.work("a")
        self.assertEqual(house.hours("top"), [4, 5])


class ToFail(Refusals):
    def test_closed_ahead_of_all(self):
        house = closed_house()
        for label in strange_names() + WORKERS + WARDENS:
            self.assert_refused(house, Closed, "fail", label)

    def test_stranger(self):
        house = house_in_use()
        for label in strange_names():
            self.assert_refused(house, Stranger, "fail", label)

    def test_gone(self):
        house = house_in_use()
        self.assert_refused(house, Gone, "fail", "gone")
        house.send("c", ("leave",))
        house.work("c")
        self.assert_refused(house, Gone, "fail", "c")


class ToAsk(Refusals):
    def test_stranger(self):
        for house in (house_in_use(), closed_house()):
            for label in strange_names() + WARDENS:
                self.assert_refused(house, Stranger, "waits", label)
                self.assert_refused(house, Stranger, "sum_of", label)
            for label in strange_names() + WORKERS:
                self.assert_refused(house, Stranger, "hours", label)

    def test_gone(self):
        house = house_in_use()
        self.assert_refused(house, Gone, "sum_of", "gone")
        self.assertEqual(house.waits("gone"), [])
        house = closed_house()
        for label in WORKERS:
            self.assert_refused(house, Gone, "sum_of", label)
        for label in WARDENS:
            self.assert_refused(house, Gone, "hours", label)

    def test_what_a_house_in_use_tells(self):
        house = house_in_use()
        self.assertEqual((house.is_open(), house.hour()), (True, 4))
        self.assertEqual(house.here(), ["top", "a", "in", "b", "c"])
        self.assertEqual([house.waits(label) for label in WORKERS], [[2, 4], [], [3, 5], []])
        self.assertEqual([house.sum_of(label) for label in ("a", "b", "c")], [0, 0, 0])
        self.assertEqual([house.hours(label) for label in WARDENS], [[4], [3]])

    def test_what_a_closed_house_goes_on_telling(self):
        house = closed_house()
        self.assertEqual((house.is_open(), house.hour(), house.here()), (False, 5, []))
        self.assertEqual([house.waits(label) for label in WORKERS], [[], [], [], []])
        wanted = "begins top, begins a, begins gone, begins in, begins b, begins c, fails gone, "
        wanted += "sent a 1 add 5, sent a 2 fault, sent b 3 leave, sent a 4 add 5, sent b 5 add 5, works a 1, "
        wanted += "fails b, begins b, fails a, begins a, "
        wanted += "fails top, ends c, ends b, ends in, ends a, lost a 2, lost a 4, lost b 3, lost b 5"
        self.assertEqual(house.history(), rows(wanted))
        before = asked(house, PLAN)
        self.assertEqual(asked(house, PLAN), before)
        self.assertEqual(names_in(PLAN), ["top", "a", "gone", "in", "b", "c"])


class HandedIn(unittest.TestCase):
    def test_is_as_it_was(self):
        for house in (house_in_use(), closed_house()):
            for things in (strange_things(), copy.deepcopy(BAD_LETTERS), copy.deepcopy(STRANGE_NAMES)):
                before = copy.deepcopy(things)
                for thing in things:
                    for deed in (house.work, house.fail, house.waits, house.sum_of, house.hours):
                        with self.assertRaises(ValueError):
                            deed(thing)
                    with self.assertRaises(ValueError):
                        house.send(thing, LETTER)
                    with self.assertRaises(ValueError):
                        house.send("gone", thing)
                self.assertEqual(repr(things), repr(before))


if __name__ == "__main__":
    unittest.main()
