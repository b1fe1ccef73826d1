"""Which hours count, and which places a rule names [8]."""

import copy
import unittest

from wardhouse.rules import counting, named

# For each size and each place: what "one", "rest" and "all" name.
BY_HAND = [
    (1, 0, [0], [0], [0]),
    (2, 0, [0], [0, 1], [0, 1]),
    (2, 1, [1], [1], [0, 1]),
    (3, 1, [1], [1, 2], [0, 1, 2]),
    (8, 0, [0], [0, 1, 2, 3, 4, 5, 6, 7], [0, 1, 2, 3, 4, 5, 6, 7]),
    (8, 3, [3], [3, 4, 5, 6, 7], [0, 1, 2, 3, 4, 5, 6, 7]),
    (8, 7, [7], [7], [0, 1, 2, 3, 4, 5, 6, 7]),
]


class Counting(unittest.TestCase):
    def test_ordinary(self):
        self.assertEqual(counting([1, 5, 7, 9], 10, 4), [7, 9])
        self.assertEqual(counting([1, 5, 7, 9], 10, 100), [1, 5, 7, 9])
        self.assertEqual(counting([1, 5], 10, 2), [])
        self.assertEqual(counting([], 10, 4), [])
        self.assertEqual(counting(hours=[3, 4], now=4, span=1), [4])

    def test_the_hour_at_now_less_span_does_not_count(self):
        for now in (0, 1, 5, 10, 10 ** 9, 10 ** 12):
            for span in (1, 2, 9, 10 ** 9):
                edge = now - span
                self.assertEqual(counting([edge], now, span), [])
                self.assertEqual(counting([edge - 1], now, span), [])
                self.assertEqual(counting([edge + 1], now, span), [edge + 1])
                self.assertEqual(counting([edge - 1, edge, edge + 1, edge + 2], now, span), [edge + 1, edge + 2])

    def test_the_order_is_that_of_the_list(self):
        self.assertEqual(counting([9, 1, 8, 7, 10], 10, 3), [9, 8, 10])
        self.assertEqual(counting([3, 2, 1], 3, 5), [3, 2, 1])
        self.assertEqual(counting([8, 9, 8, 2, 9, 9], 10, 3), [8, 9, 8, 9, 9])

    def test_hours_behind_now_are_greater_too(self):
        self.assertEqual(counting([4, 12, 11, 3], 10, 1), [12, 11])

    def test_a_list_of_the_caller(self):
        hours = [5, 3, 9]
        before = copy.deepcopy(hours)
        for span in (1, 5, 100):
            found = counting(hours, 9, span)
            self.assertIs(type(found), list)
            self.assertIsNot(found, hours)
            wanted = list(found)
            self.assertEqual(hours, before)
            found.append(1)
            found.reverse()
            self.assertEqual(hours, before)
            self.assertEqual(counting(hours, 9, span), wanted)

    def test_the_list_handed_in_is_not_kept(self):
        hours = [5, 3, 9]
        found = counting(hours, 9, 100)
        hours.append(10)
        hours[0] = 0
        self.assertEqual(found, [5, 3, 9])
        self.assertEqual(counting(hours, 9, 100), [0, 3, 9, 10])


class Named(unittest.TestCase):
    def test_by_hand(self):
        for size, at, one, rest, everyone in BY_HAND:
            self.assertEqual(named("one", size, at), one, (size, at))
            self.assertEqual(named("rest", size, at), rest, (size, at))
            self.assertEqual(named("all", size, at), everyone, (size, at))
        self.assertEqual(named(rule="rest", size=4, at=2), [2, 3])

    def test_each_rule_with_each_size_and_place(self):
        for size in range(1, 9):
            for at in range(size):
                everyone = [place for place in (0, 1, 2, 3, 4, 5, 6, 7) if place < size]
                self.assertEqual(named("one", size, at), [at])
                self.assertEqual(named("rest", size, at), [place for place in everyone if place >= at])
                self.assertEqual(named("all", size, at), everyone)

    def test_somewhat_beyond_the_size(self):
        self.assertEqual(named("one", 10, 9), [9])
        self.assertEqual(named("rest", 10, 8), [8, 9])
        self.assertEqual(len(named("all", 10, 0)), 10)

    def test_a_list_of_the_caller(self):
        for rule in ("one", "rest", "all"):
            for size in range(1, 9):
                for at in range(size):
                    found = named(rule, size, at)
                    self.assertIs(type(found), list)
                    wanted = list(found)
                    found.append(99)
                    found[0] = 98
                    self.assertEqual(named(rule, size, at), wanted)


if __name__ == "__main__":
    unittest.main()
