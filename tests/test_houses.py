"""A house as it is made [3] [4], letters sent [5], work [6] and failing [7], letters lost [9]."""

import copy
import unittest

from tests.things import (
    SAMPLE, SAMPLE_NAMES, asked, chain, deep_things, names_in, rows, side_by_side, strange_things, warden, worker,
    workers_in,
)
from wardhouse.errors import BadPlan, Gone
from wardhouse.houses import House

PAIR = warden("top", worker("a"), worker("b", "faulted"), worker("c", "never"), many=9, span=100)
DEEP = warden(
    "top",
    worker("a"),
    warden("mid", worker("b"), warden("low", worker("c"), worker("d", "never"), many=9), worker("e", "never"), many=9),
    worker("f", "faulted"),
    many=9, span=100,
)


class Made(unittest.TestCase):
    def test_all_parts_begin_in_the_order_of_the_plan(self):
        house = House(SAMPLE)
        self.assertEqual(house.history(), [("begins", label) for label in SAMPLE_NAMES])
        self.assertEqual(house.here(), SAMPLE_NAMES)

    def test_by_hand(self):
        wanted = "begins top, begins a, begins mid, begins b, begins low, begins c, begins d, begins e, begins f"
        self.assertEqual(House(plan=DEEP).history(), rows(wanted))

    def test_hour_open_sums_letters_hours(self):
        for plan in (SAMPLE, PAIR, DEEP, chain(1), chain(6), side_by_side(9), side_by_side(60)):
            house = House(plan)
            self.assertEqual(house.hour(), 0)
            self.assertIs(type(house.hour()), int)
            self.assertIs(house.is_open(), True)
            self.assertEqual(house.here(), names_in(plan))
            self.assertEqual(house.history(), [("begins", label) for label in names_in(plan)])
            for label in names_in(plan):
                if label in workers_in(plan):
                    self.assertEqual((house.sum_of(label), house.waits(label)), (0, []))
                else:
                    self.assertEqual(house.hours(label), [])

    def test_what_is_no_plan_is_refused(self):
        things = strange_things() + deep_things() + [0, 1, "top", list(SAMPLE), worker("a"), (SAMPLE,)]
        things += [side_by_side(61), chain(7), warden("a", worker("a")), warden("a"), warden("a", worker("b"), many=-1)]
        things += [warden("a", worker("b"), many=True), warden("a", worker("b"), span=0), warden("a", ["b"])]
        for thing in things:
            with self.assertRaises(BadPlan) as held:
                House(thing)
            self.assertIs(type(held.exception), BadPlan)


class Sent(unittest.TestCase):
    def test_numbers_rise_by_one_in_the_house(self):
        house = House(PAIR)
        self.assertEqual(house.send("a", ("add", 5)), 1)
        self.assertEqual(house.send("b", ("fault",)), 2)
        self.assertEqual(house.send("a", ("leave",)), 3)
        self.assertEqual(house.send(name="c", letter=("add", -10 ** 9)), 4)
        wanted = "sent a 1 add 5, sent b 2 fault, sent a 3 leave, sent c 4 add -1000000000"
        self.assertEqual(house.history()[4:], rows(wanted))
        self.assertEqual(house.waits("a"), [1, 3])
        self.assertEqual(house.waits("b"), [2])
        self.assertEqual(house.waits("c"), [4])

    def test_sending_is_no_work(self):
        house = House(PAIR)
        for _ in range(5):
            house.send("a", ("add", 5))
        self.assertEqual((house.hour(), house.sum_of("a")), (0, 0))

    def test_each_letter_at_its_edges(self):
        for letter in [("add", number) for number in (-10 ** 9, -1, 0, 1, 10 ** 9)] + [("fault",), ("leave",)]:
            house = House(PAIR)
            self.assertEqual(house.send("b", letter), 1)
            self.assertEqual(house.history()[-1], ("sent", "b", 1, letter))

    def test_numbers_of_lost_and_refused_letters(self):
        house = House(PAIR)
        house.send("a", ("add", 5))
        house.send("b", ("add", 5))
        house.fail("c")
        with self.assertRaises(Gone):
            house.send("c", ("add", 5))
        self.assertEqual(house.send("a", ("add", 5)), 3)


class Works(unittest.TestCase):
    def test_adds_in_the_order_of_sending(self):
        house = House(PAIR)
        for number in (5, -7, 0, 10 ** 9):
            house.send("a", ("add", number))
        found = []
        for hour in range(1, 5):
            found.append((house.work("a"), house.sum_of("a"), house.hour(), house.waits("a")))
        self.assertEqual(found, [
            ([("works", "a", 1)], 5, 1, [2, 3, 4]),
            ([("works", "a", 2)], -2, 2, [3, 4]),
            ([("works", "a", 3)], -2, 3, [4]),
            ([("works", "a", 4)], 10 ** 9 - 2, 4, []),
        ])

    def test_sums_grow_beyond_what_one_letter_adds(self):
        house = House(PAIR)
        for sign, label in ((1, "a"), (-1, "b")):
            for _ in range(3):
                house.send(label, ("add", sign * 10 ** 9))
                house.work(label)
            self.assertEqual(house.sum_of(label), sign * 3 * 10 ** 9)

    def test_workers_have_letters_and_sums_of_their_own(self):
        house = House(PAIR)
        house.send("a", ("add", 1))
        house.send("b", ("add", 2))
        house.send("a", ("add", 4))
        self.assertEqual(house.work(name="b"), [("works", "b", 2)])
        self.assertEqual((house.sum_of("a"), house.sum_of("b"), house.sum_of("c")), (0, 2, 0))
        self.assertEqual((house.waits("a"), house.waits("b")), ([1, 3], []))
        self.assertEqual(house.history()[-1], ("works", "b", 2))

    def test_a_fault(self):
        for label, wanted in (
            ("a", "works a 1, fails a, begins a"),
            ("b", "works b 1, fails b, begins b"),
            ("c", "works c 1, fails c"),
        ):
            house = House(PAIR)
            house.send(label, ("fault",))
            self.assertEqual(house.work(label), rows(wanted))
            self.assertEqual(house.hour(), 1)
            self.assertEqual(house.hours("top"), [] if label == "c" else [1])
            self.assertEqual(label in house.here(), label != "c")

    def test_leaving(self):
        for label, wanted in (
            ("a", "works a 1, leaves a, begins a"),
            ("b", "works b 1, leaves b"),
            ("c", "works c 1, leaves c"),
        ):
            house = House(PAIR)
            house.send(label, ("leave",))
            self.assertEqual(house.work(label), rows(wanted))
            self.assertEqual(house.hour(), 1)
            self.assertEqual(house.hours("top"), [1] if label == "a" else [])
            self.assertEqual(label in house.here(), label == "a")

    def test_a_leaving_that_counts_can_be_too_much(self):
        plan = warden("top", worker("a"), worker("b"), many=1, span=2)
        house = House(plan)
        house.send("a", ("leave",))
        house.send("a", ("leave",))
        house.send("a", ("add", 1))
        self.assertEqual(house.work("a"), rows("works a 1, leaves a, begins a"))
        self.assertEqual(house.work("a"), rows("works a 2, leaves a, fails top, ends b, lost a 3"))
        self.assertIs(house.is_open(), False)

    def test_a_leaving_names_others_too(self):
        plan = warden("top", worker("a"), worker("b", "never"), worker("c", "faulted"), rule="all", many=5)
        house = House(plan)
        house.send("a", ("leave",))
        wanted = "works a 1, leaves a, ends c, ends b, begins a, begins c"
        self.assertEqual(house.work("a"), rows(wanted))
        self.assertEqual(house.here(), ["top", "a", "c"])


class Fails(unittest.TestCase):
    def test_a_worker_by_itself(self):
        house = House(PAIR)
        self.assertEqual(house.fail("a"), rows("fails a, begins a"))
        self.assertEqual(house.fail(name="b"), rows("fails b, begins b"))
        self.assertEqual(house.fail("c"), rows("fails c"))
        self.assertEqual((house.hour(), house.hours("top"), house.here()), (3, [1, 2], ["top", "a", "b"]))

    def test_a_warden_by_itself(self):
        house = House(DEEP)
        wanted = "fails mid, ends e, ends d, ends c, ends low, ends b, "
        wanted += "begins mid, begins b, begins low, begins c, begins d, begins e"
        self.assertEqual(house.fail("mid"), rows(wanted))
        self.assertEqual((house.hour(), house.hours("top"), house.hours("mid")), (1, [1], []))
        wanted = "fails low, ends d, ends c, begins low, begins c, begins d"
        self.assertEqual(house.fail("low"), rows(wanted))
        self.assertEqual((house.hour(), house.hours("top"), house.hours("mid")), (2, [1], [2]))

    def test_only_parts_that_are_here_end(self):
        house = House(DEEP)
        house.fail("d")
        house.send("b", ("leave",))
        house.fail("e")
        wanted = "fails mid, ends c, ends low, ends b, begins mid, begins b, begins low, begins c, begins d, begins e"
        self.assertEqual(house.fail("mid"), rows(wanted))
        self.assertEqual(house.here(), names_in(DEEP))

    def test_the_top_warden_closes_the_house(self):
        house = House(DEEP)
        wanted = "fails top, ends f, ends e, ends d, ends c, ends low, ends b, ends mid, ends a"
        self.assertEqual(house.fail("top"), rows(wanted))
        self.assertEqual((house.is_open(), house.hour(), house.here()), (False, 1, []))

    def test_every_part_of_deep_and_of_wide_plans(self):
        for plan in (chain(6), side_by_side(60)):
            for label in names_in(plan)[1:]:
                house = House(plan)
                found = house.fail(label)
                beneath = names_in(part_called(plan, label))
                self.assertEqual(found, [("fails", label)] + ends_of(part_called(plan, label))[:-1] + [
                    ("begins", inner) for inner in beneath])
                self.assertEqual(house.here(), names_in(plan))

    def test_the_top_of_deep_and_of_wide_plans(self):
        for plan in (chain(6), side_by_side(60)):
            house = House(plan)
            top = names_in(plan)[0]
            self.assertEqual(house.fail(top), [("fails", top)] + ends_of(plan)[:-1])
            self.assertEqual(house.here(), [])


class Lost(unittest.TestCase):
    def test_letters_of_one_that_begins_anew_go_on_waiting(self):
        house = House(PAIR)
        for letter in (("add", 5), ("fault",), ("add", 7), ("leave",), ("add", 9)):
            house.send("a", letter)
        house.work("a")
        self.assertEqual(house.sum_of("a"), 5)
        self.assertEqual(house.work("a"), rows("works a 2, fails a, begins a"))
        self.assertEqual((house.sum_of("a"), house.waits("a")), (0, [3, 4, 5]))
        house.work("a")
        self.assertEqual(house.sum_of("a"), 7)
        self.assertEqual(house.work("a"), rows("works a 4, leaves a, begins a"))
        self.assertEqual((house.sum_of("a"), house.waits("a")), (0, [5]))

    def test_letters_of_one_that_fails_for_good_are_lost(self):
        house = House(PAIR)
        for label in ("c", "a", "c", "b", "c"):
            house.send(label, ("add", 5))
        self.assertEqual(house.fail("c"), rows("fails c, lost c 1, lost c 3, lost c 5"))
        self.assertEqual((house.waits("a"), house.waits("b"), house.waits("c")), ([2], [4], []))

    def test_letters_of_one_that_leaves_for_good_are_lost(self):
        house = House(PAIR)
        house.send("b", ("leave",))
        house.send("b", ("fault",))
        self.assertEqual(house.work("b"), rows("works b 1, leaves b, lost b 2"))
        self.assertEqual(house.waits("b"), [])

    def test_several_workers_in_one_deed_in_the_order_of_the_plan(self):
        house = House(DEEP)
        for label in ("f", "d", "a", "e", "d", "b", "c", "a"):
            house.send(label, ("add", 1))
        found = house.fail("top")
        wanted = "lost a 3, lost a 8, lost b 6, lost c 7, lost d 2, lost d 5, lost e 4, lost f 1"
        self.assertEqual(found[9:], rows(wanted))
        for label in workers_in(DEEP):
            self.assertEqual(house.waits(label), [])

    def test_those_that_end_and_do_not_begin_anew(self):
        plan = warden(
            "top", worker("d", "never"), worker("a"), warden("in", worker("b", "never")), worker("c", "never"),
            rule="all", many=9)
        house = House(plan)
        for label in ("c", "b", "a", "d", "c"):
            house.send(label, ("add", 1))
        wanted = "fails a, ends c, ends b, ends in, ends d, begins a, begins in, begins b, "
        wanted += "lost d 4, lost c 1, lost c 5"
        self.assertEqual(house.fail("a"), rows(wanted))
        # b is never begun by itself, but its warden begins with all of its plan; so its letter waits on.
        self.assertEqual((house.waits("a"), house.waits("b")), ([3], [2]))


class HandedIn(unittest.TestCase):
    def test_is_as_it_was(self):
        plan = copy.deepcopy(DEEP)
        letter = ("add", 5)
        house = House(plan)
        house.send("a", letter)
        house.work("a")
        house.fail("mid")
        house.fail("top")
        self.assertEqual(repr(plan), repr(DEEP))
        self.assertEqual(letter, ("add", 5))

    def test_two_houses_of_one_plan_know_nothing_of_each_other(self):
        one = House(DEEP)
        other = House(DEEP)
        before = asked(other, DEEP)
        one.send("a", ("add", 3))
        one.work("a")
        one.send("b", ("add", 3))
        one.fail("low")
        one.fail("d")
        self.assertEqual(asked(other, DEEP), before)
        told = asked(one, DEEP)
        self.assertEqual(other.send("c", ("fault",)), 1)
        other.fail("top")
        self.assertEqual(asked(one, DEEP), told)

    def test_each_list_is_the_callers_own(self):
        house = House(DEEP)
        house.send("a", ("add", 3))
        house.send("a", ("fault",))
        house.send("a", ("add", 5))
        lists = [house.work("a"), house.work("a"), house.fail("low"), house.fail("d")]
        lists += [house.here(), house.history(), house.waits("a"), house.hours("top"), house.hours("mid")]
        before = asked(house, DEEP)
        copies = copy.deepcopy(lists)
        for row in lists:
            self.assertIs(type(row), list)
            self.assertTrue(row)
            row.append("more")
            row[0] = "other"
            self.assertEqual(asked(house, DEEP), before)
            row.clear()
            self.assertEqual(asked(house, DEEP), before)
        self.assertTrue(all(copies))

    def test_no_later_deed_changes_a_list(self):
        house = House(DEEP)
        house.send("a", ("add", 3))
        house.send("a", ("add", 5))
        lists = [house.work("a"), house.fail("a"), house.fail("low")]
        lists += [house.here(), house.history(), house.waits("a"), house.waits("b"), house.hours("top")]
        copies = copy.deepcopy(lists)
        house.work("a")
        house.send("b", ("fault",))
        house.work("b")
        house.fail("a")
        house.fail("d")
        self.assertEqual(lists, copies)
        house.fail("top")
        self.assertEqual(lists, copies)


def part_called(part, label):
    if part[1] == label:
        return part
    for inner in part[5] if part[0] == "warden" else ():
        found = part_called(inner, label)
        if found:
            return found
    return None


def ends_of(part):
    inner = [event for below in (part[5][::-1] if part[0] == "warden" else ()) for event in ends_of(below)]
    return inner + [("ends", part[1])]


if __name__ == "__main__":
    unittest.main()
