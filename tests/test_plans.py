"""Plans [2], and the names of a plan."""

import copy
import unittest

from tests.things import (
    SAMPLE, SAMPLE_NAMES, at_path, beneath, chain, deep_things, name, places, replaced, side_by_side, strange_things,
    warden, worker,
)
from wardhouse.plans import is_plan, names_of

INNER = warden("inner", worker("leaf"))

RIGHT = {
    "worker": ["worker"],
    "warden": ["warden"],
    "name": ["fresh", "a", "worker", "warden", "always", "abcdefgh"],
    "again": ["always", "faulted", "never"],
    "rule": ["one", "rest", "all"],
    "many": [0, 1, 2, 10 ** 9 - 1, 10 ** 9],
    "span": [1, 2, 10 ** 9 - 1, 10 ** 9],
    "parts": [(("worker", "fresh", "never"),), (INNER, ("worker", "fresh", "always"))],
    "part": [("worker", "fresh", "never"), INNER],
}
WRONG = {
    "worker": ["warden", "Worker", "WORKER", "worker ", " worker", "workers", "work", "always"],
    "warden": ["worker", "Warden", "WARDEN", "warden\n", " warden", "wardens", "ward", "one"],
    "name": ["", "A", "aB", "a1", "a b", "a\n", "\n", "\t", "a_", "abcdefghi"],
    "again": ["one", "rest", "all", "Always", "always ", "fault", "faulted\n", "nevers", "alway", "worker"],
    "rule": ["always", "faulted", "never", "One", "ones", " rest", "all\n", "al", "warden"],
    "many": [-1, -10 ** 9, 10 ** 9 + 1, 10 ** 18, True, False, "1", "", [1], (1,), {1: 1}, None],
    "span": [0, -1, -10 ** 9, 10 ** 9 + 1, 10 ** 18, True, False, "1", "", [1], (1,), {1: 1}, None],
    "parts": [
        (), [], [worker("fresh")], worker("fresh"), INNER, "fresh", {"fresh": worker("fresh")},
        (["worker", "fresh", "never"],), (worker("fresh"), None), (None, worker("fresh")), (("fresh",),),
        tuple(worker("fresh" + name(at)) for at in range(9)),
    ],
    "part": [
        ("worker", "fresh"), ("worker", "fresh", "always", "always"), ("worker", "fresh", "one"), ("fresh",),
        ["worker", "fresh", "never"], (worker("fresh"),), [worker("fresh")], "fresh", "worker",
        ("warden", "fresh", "one", 1, 10), ("warden", "fresh", "always"),
        ("worker", "fresh", "one", 1, 10, (worker("leaf"),)),
        {"worker": "fresh"},
    ],
}


class Plans(unittest.TestCase):
    def assert_plan(self, thing, wanted):
        # repr of a thing may be too deep for Python; so a failure tells its first signs alone.
        self.assertIs(is_plan(thing), wanted, str(thing)[:2000])

    def test_ordinary_plans(self):
        self.assert_plan(SAMPLE, True)
        self.assert_plan(warden("a", worker("b")), True)
        self.assert_plan(warden("a", warden("b", worker("c")), warden("d", worker("e"), worker("f"))), True)
        self.assertIs(is_plan(thing=SAMPLE), True)

    def test_right_things_in_every_place(self):
        for path, kind in places(SAMPLE):
            if not path:
                continue
            for thing in RIGHT[kind]:
                self.assert_plan(replaced(SAMPLE, path, thing), True)

    def test_wrong_things_in_every_place(self):
        for path, kind in places(SAMPLE):
            for thing in WRONG[kind] + strange_things():
                self.assert_plan(replaced(SAMPLE, path, thing), False)

    def test_wrong_things_in_every_place_of_the_deepest_plan(self):
        for path, kind in places(chain(6)):
            for thing in WRONG[kind] + strange_things():
                self.assert_plan(replaced(chain(6), path, thing), False)

    def test_a_list_in_a_tuple_place(self):
        for path, kind in places(SAMPLE):
            if kind in ("part", "parts"):
                self.assert_plan(replaced(SAMPLE, path, list(at_path(SAMPLE, path))), False)

    def test_one_thing_less(self):
        for path, kind in places(SAMPLE):
            if kind != "part":
                continue
            part = at_path(SAMPLE, path)
            for at in range(len(part)):
                self.assert_plan(replaced(SAMPLE, path, part[:at] + part[at + 1:]), False)

    def test_one_thing_more(self):
        for path, kind in places(SAMPLE):
            if kind != "part":
                continue
            part = at_path(SAMPLE, path)
            for thing in (None, 0, "always", (), (worker("fresh"),), part[-1], part[1]):
                for at in range(len(part) + 1):
                    self.assert_plan(replaced(SAMPLE, path, part[:at] + (thing,) + part[at:]), False)

    def test_a_worker_on_top(self):
        for again in ("always", "faulted", "never"):
            self.assert_plan(worker("a", again), False)
        self.assert_plan((SAMPLE,), False)
        self.assert_plan([SAMPLE], False)

    def test_things_of_other_kinds(self):
        for thing in strange_things() + deep_things() + [0, 1, "top", "warden", list(SAMPLE), {"top": SAMPLE}]:
            self.assertIs(is_plan(thing), False)

    def test_deep_things_in_every_place(self):
        for path, kind in places(SAMPLE):
            for thing in deep_things():
                self.assertIs(is_plan(replaced(SAMPLE, path, thing)), False)


class Limits(unittest.TestCase):
    def test_one_to_eight_parts(self):
        for many in range(0, 13):
            parts = [worker(name(at)) for at in range(many)]
            wanted = 1 <= many <= 8
            self.assertIs(is_plan(warden("top", *parts)), wanted, many)
            self.assertIs(is_plan(warden("top", worker("w"), warden("inner", *parts))), wanted, many)
            if parts:
                self.assertIs(is_plan(warden("top", *parts[1:], warden("inner", worker("w")))), wanted, many)

    def test_sixty_names(self):
        for many in range(2, 74):
            self.assertIs(is_plan(side_by_side(many)), many <= 60, many)

    def test_sixty_names_beneath_more_wardens(self):
        for wardens in range(1, 5):
            for many in (57, 58, 59, 60, 61, 62, 70):
                plan = beneath(wardens, side_by_side(many - wardens))
                self.assertIs(is_plan(plan), many <= 60, (wardens, many))

    def test_six_wardens_above(self):
        for wardens in range(1, 40):
            self.assertIs(is_plan(chain(wardens)), wardens <= 6, wardens)

    def test_six_wardens_above_at_each_place(self):
        for wardens in range(1, 9):
            for at in range(8):
                parts = [worker(name(place)) for place in range(8)]
                parts[at] = chain(wardens)
                self.assertIs(is_plan(warden("top", *parts)), wardens <= 5, (wardens, at))

    def test_many_wardens_side_by_side(self):
        rows = [
            warden(name(at), worker(name(at + 30)), warden(name(at + 60), worker(name(at + 90)))) for at in range(8)
        ]
        self.assertIs(is_plan(warden("top", *rows)), True)

    def test_wardens_beneath_seven_that_have_no_parts(self):
        # The seventh warden is no part by itself; so depth alone is not what is wrong here.
        self.assertIs(is_plan(beneath(6, ("warden", "w", "one", 1, 1, ()))), False)

    def test_many_and_span(self):
        for many in (-1, 0, 1, 10 ** 9, 10 ** 9 + 1):
            wanted = 0 <= many <= 10 ** 9
            self.assertIs(is_plan(warden("a", worker("b"), many=many)), wanted, many)
            self.assertIs(is_plan(warden("a", warden("c", worker("b"), many=many))), wanted, many)
        for span in (-1, 0, 1, 10 ** 9, 10 ** 9 + 1):
            wanted = 1 <= span <= 10 ** 9
            self.assertIs(is_plan(warden("a", worker("b"), span=span)), wanted, span)
            self.assertIs(is_plan(warden("a", warden("c", worker("b"), span=span))), wanted, span)

    def test_a_name_twice_at_any_two_places(self):
        for plan in (SAMPLE, chain(6), side_by_side(30), side_by_side(60)):
            paths = [path for path, kind in places(plan) if kind == "name"]
            for at, path in enumerate(paths):
                self.assertIs(is_plan(replaced(plan, path, "fresh")), True)
                for other in paths[:at] + paths[at + 1:]:
                    self.assertIs(is_plan(replaced(plan, path, at_path(plan, other))), False)

    def test_one_part_at_two_places(self):
        part = worker("w")
        self.assertIs(is_plan(warden("a", part, part)), False)
        self.assertIs(is_plan(warden("a", warden("b", part), part)), False)
        self.assertIs(is_plan(warden("a", warden("b", worker("c")), warden("b", worker("d")))), False)
        wide = worker("w")
        for label in "abcdef":
            wide = warden(label, *[wide] * 8)
        self.assertIs(is_plan(wide), False)


class NamesOf(unittest.TestCase):
    def test_the_order_of_the_plan(self):
        self.assertEqual(names_of(SAMPLE), SAMPLE_NAMES)
        self.assertEqual(names_of(warden("b", worker("a"))), ["b", "a"])
        plan = warden("t", warden("z", worker("y"), worker("x")), worker("m"), warden("b", worker("a")), worker("c"))
        self.assertEqual(names_of(plan), ["t", "z", "y", "x", "m", "b", "a", "c"])
        self.assertEqual(names_of(plan=plan)[0], "t")

    def test_the_order_is_that_of_the_text(self):
        for plan in (SAMPLE, chain(6), side_by_side(9), side_by_side(40), side_by_side(60)):
            text = repr(plan)
            names = names_of(plan)
            self.assertEqual(names, sorted(names, key=lambda label: text.index(f"'{label}'")))
            self.assertEqual(len(names), text.count("worker") + text.count("warden"))

    def test_somewhat_beyond_the_limits(self):
        self.assertEqual(len(names_of(side_by_side(73))), 73)
        self.assertEqual(len(names_of(chain(20))), 21)
        self.assertEqual(names_of(warden("a", worker("a"), worker("a"))), ["a", "a", "a"])
        self.assertEqual(len(names_of(warden("top", *[worker(name(at)) for at in range(12)]))), 13)

    def test_is_a_list_of_the_caller(self):
        for plan in (SAMPLE, chain(6), warden("a", worker("b"))):
            first = names_of(plan)
            self.assertIs(type(first), list)
            wanted = list(first)
            first.append("more")
            first[0] = "other"
            self.assertEqual(names_of(plan), wanted)
            first.clear()
            self.assertEqual(names_of(plan), wanted)
            self.assertIs(is_plan(plan), True)


class HandedIn(unittest.TestCase):
    def test_is_as_it_was(self):
        things = strange_things() + [SAMPLE, list(SAMPLE), warden("a", ["worker", "b", "always"])]
        things.extend([("warden", "a", "one", 1, 1, [worker("b")]), ("warden", "a", "one", [1], {}, (worker("b"),))])
        things.append(warden("a", warden("b", worker("c")), worker(["d"]), worker("e")))
        before = copy.deepcopy(things)
        for thing in things:
            is_plan(thing)
        self.assertEqual(repr(things), repr(before))
        plan = copy.deepcopy(SAMPLE)
        names_of(plan)
        self.assertEqual(repr(plan), repr(SAMPLE))

    def test_is_not_kept(self):
        row = []
        thing = ("warden", "a", "one", 1, 1, row)
        self.assertIs(is_plan(thing), False)
        row.append(worker("b"))
        self.assertIs(is_plan(thing), False)
        self.assertIs(is_plan(thing[:5] + (tuple(row),)), True)

    def test_no_answer_hangs_on_an_earlier_one(self):
        # True and 1, and False and 0, are equal to Python.
        plan = warden("a", worker("b"), many=1, span=1)
        for _ in range(2):
            self.assertIs(is_plan(plan), True)
            self.assertIs(is_plan(replaced(plan, (3,), True)), False)
            self.assertIs(is_plan(replaced(plan, (4,), True)), False)
            self.assertIs(is_plan(replaced(plan, (3,), 0)), True)
            self.assertIs(is_plan(replaced(plan, (3,), False)), False)


if __name__ == "__main__":
    unittest.main()
