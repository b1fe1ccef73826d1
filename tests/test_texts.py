"""The text of a list of events, and back [13]."""

import copy
import unittest

from tests.things import SAMPLE, Chances, answer, chance_deed, chance_plan, deep_things, done, strange_things
from wardhouse.errors import BadText
from wardhouse.houses import House
from wardhouse.texts import read, told

EDGE = 10 ** 9
BY_HAND = [
    (("begins", "a"), "begins a"),
    (("ends", "abcdefgh"), "ends abcdefgh"),
    (("leaves", "z"), "leaves z"),
    (("fails", "zzzzzzzz"), "fails zzzzzzzz"),
    (("works", "a", 1), "works a 1"),
    (("works", "abcdefgh", 10 ** 9), "works abcdefgh 1000000000"),
    (("lost", "a", 1), "lost a 1"),
    (("lost", "abcdefgh", 10 ** 9), "lost abcdefgh 1000000000"),
    (("lost", "b", 120), "lost b 120"),
    (("sent", "a", 1, ("add", 5)), "sent a 1 add 5"),
    (("sent", "abcdefgh", 10 ** 9, ("add", 10 ** 9)), "sent abcdefgh 1000000000 add 1000000000"),
    (("sent", "a", 2, ("add", -10 ** 9)), "sent a 2 add -1000000000"),
    (("sent", "a", 30, ("add", -1)), "sent a 30 add -1"),
    (("sent", "a", 4, ("add", 0)), "sent a 4 add 0"),
    (("sent", "a", 4, ("add", 1)), "sent a 4 add 1"),
    (("sent", "a", 4, ("add", -20)), "sent a 4 add -20"),
    (("sent", "a", 7, ("fault",)), "sent a 7 fault"),
    (("sent", "sent", 999999999, ("leave",)), "sent sent 999999999 leave"),
]
# Names that are words of events and letters, too.
WORDS = ["begins", "ends", "sent", "works", "leaves", "fails", "lost", "add", "fault", "leave"]
SHORT = ["begins", "ends", "leaves", "fails"]
NUMBERED = ["works", "lost"]
BAD_NUMBERS = [
    "", "01", "001", "1 ", "+1", "++1", "--1", "-", "+", "1-", "1+", "1.0", "1e3", "1_0", "0x1", "one", "a", "1a", "a1",
    "1,", "(1)", "'1'", "True", "None", "1\t", "\t1", "1\r", " 1", "00", "-0", "+0", "-00", "-01", "000000001",
    "01000000000", "-01000000000", "1000000001", "9999999999", "10000000000", "9" * 5000, "-" + "9" * 5000, "0" * 5000,
]


class Refused(unittest.TestCase):
    def assert_refused(self, thing):
        with self.assertRaises(BadText) as held:
            read(thing)
        self.assertIs(type(held.exception), BadText)


class Told(unittest.TestCase):
    def test_each_kind_of_event(self):
        for event, row in BY_HAND:
            self.assertEqual(told([event]), row + "\n")
        self.assertEqual(told(events=[("fails", "a")]), "fails a\n")

    def test_no_events(self):
        self.assertEqual(told([]), "")

    def test_several(self):
        self.assertEqual(told([("begins", "a"), ("lost", "a", 3)]), "begins a\nlost a 3\n")
        self.assertEqual(told([event for event, _ in BY_HAND]), "".join(row + "\n" for _, row in BY_HAND))

    def test_somewhat_beyond_the_limits(self):
        self.assertEqual(told([("works", "a", 10 ** 9 + 1)]), "works a 1000000001\n")
        self.assertEqual(told([("sent", "a", 1, ("add", -10 ** 9 - 1))]), "sent a 1 add -1000000001\n")
        self.assertEqual(told([("begins", "abcdefghi")]), "begins abcdefghi\n")

    def test_what_is_handed_in_is_as_it_was(self):
        events = [event for event, _ in BY_HAND]
        before = copy.deepcopy(events)
        text = told(events)
        self.assertEqual(events, before)
        events.clear()
        self.assertEqual(told(before), text)


class Read(Refused):
    def test_each_kind_of_event(self):
        for event, row in BY_HAND:
            found = read(row + "\n")
            self.assertEqual(found, [event])
            self.assertEqual(repr(found), repr([event]))
        self.assertEqual(read(text="fails a\n"), [("fails", "a")])

    def test_no_events(self):
        self.assertEqual(read(""), [])

    def test_several(self):
        events = [event for event, _ in BY_HAND]
        self.assertEqual(read("".join(row + "\n" for _, row in BY_HAND)), events)
        self.assertEqual(read("ends b\nends b\nbegins c\n"), [("ends", "b"), ("ends", "b"), ("begins", "c")])

    def test_every_word_as_a_name(self):
        for label in WORDS:
            for word in SHORT:
                self.assertEqual(read(f"{word} {label}\n"), [(word, label)])
            for word in NUMBERED:
                self.assertEqual(read(f"{word} {label} 12\n"), [(word, label, 12)])
            self.assertEqual(read(f"sent {label} 12 leave\n"), [("sent", label, 12, ("leave",))])

    def test_back_and_forth(self):
        for seed in range(40):
            chances = Chances(seed)
            plan = SAMPLE if seed == 0 else chance_plan(chances)
            house = House(plan)
            for _ in range(60):
                done(house, chance_deed(chances, house, plan))
            text = told(house.history())
            self.assertEqual(read(text), house.history())
            self.assertEqual(told(read(text)), text)
            self.assertEqual(text.count("\n"), len(house.history()))

    def test_a_list_of_the_caller(self):
        text = "begins a\nlost a 3\n"
        first = read(text)
        self.assertIs(type(first), list)
        first.append("more")
        first[0] = "other"
        self.assertEqual(read(text), [("begins", "a"), ("lost", "a", 3)])

    def test_what_is_no_text(self):
        for thing in strange_things() + deep_things() + [0, 1, [("begins", "a")], ["begins a\n"], ("begins a\n",)]:
            if thing != "":
                self.assert_refused(thing)


class Numbers(Refused):
    def test_of_letters_from_1_to_10_to_the_9(self):
        for word in NUMBERED:
            for number in (1, 2, 9, 10, 99, 100, EDGE - 1, EDGE):
                self.assertEqual(read(f"{word} a {number}\n"), [(word, "a", number)])
            for number in (0, -1, -5, -EDGE, EDGE + 1, EDGE * 10, -EDGE - 1):
                self.assert_refused(f"{word} a {number}\n")
        for tail in ("fault", "leave", "add 5"):
            for number in (1, EDGE):
                self.assertEqual(read(f"sent a {number} {tail}\n")[0][2], number)
            for number in (0, -1, EDGE + 1):
                self.assert_refused(f"sent a {number} {tail}\n")

    def test_of_add(self):
        for number in (-EDGE, -EDGE + 1, -10, -1, 0, 1, 10, EDGE - 1, EDGE):
            self.assertEqual(read(f"sent a 1 add {number}\n"), [("sent", "a", 1, ("add", number))])
        for number in (-EDGE - 1, EDGE + 1, -EDGE * 10, EDGE * 10):
            self.assert_refused(f"sent a 1 add {number}\n")

    def test_that_are_not_written_so(self):
        for number in BAD_NUMBERS:
            self.assert_refused(f"works a {number}\n")
            self.assert_refused(f"lost abcdefgh {number}\n")
            self.assert_refused(f"sent a {number} fault\n")
            self.assert_refused(f"sent a {number} add 5\n")
            self.assert_refused(f"sent a 1 add {number}\n")


class Rows(Refused):
    def test_line_ends(self):
        for _, row in BY_HAND:
            for text in (
                row, "\n" + row + "\n", row + "\n\n", row + "\n\n" + row + "\n", row + "\n" + row, row + "\r\n",
                row + "\r", row + "\n\r", "\r" + row + "\n", row + " \n", row + "\n ", " " + row + "\n", row + "\t\n",
                "\t" + row + "\n", row + "\n\t", row + "\x0b", row + "\x0c\n",
            ):
                self.assert_refused(text)
        for text in ("\n", "\n\n", " ", " \n", "\t", "\t\n", "\r\n", "\r", "\n ", "\n\t\n"):
            self.assert_refused(text)

    def test_blanks(self):
        for _, row in BY_HAND:
            words = row.split(" ")
            for at in range(1, len(words)):
                for between in ("  ", "\t", " \t", "\t ", "\n", "", "   ", "_", ",", "\r", "\n ", " \n"):
                    text = " ".join(words[:at]) + between + " ".join(words[at:]) + "\n"
                    self.assert_refused(text)

    def test_one_word_less_or_more(self):
        for _, row in BY_HAND:
            words = row.split(" ")
            for at in range(len(words)):
                self.assert_refused(" ".join(words[:at] + words[at + 1:]) + "\n")
            for at in range(len(words) + 1):
                for more in ("a", "1", "add", "fault", "leave", "begins", "5", ""):
                    self.assert_refused(" ".join(words[:at] + [more] + words[at:]) + "\n")

    def test_other_words(self):
        for _, row in BY_HAND:
            tail = row.partition(" ")[2]
            for word in ("begin", "beginss", "Begins", "BEGINS", "begins\t", "works:", "send", "loses", "add", "", "1"):
                self.assert_refused(f"{word} {tail}\n")
            for word in set(WORDS) - {row.split(" ")[0]}:
                text = f"{word} {tail}\n"
                found = answer(read, text)
                if found is not BadText:
                    kinds = [group for group in (SHORT, NUMBERED) if row.split(" ")[0] in group]
                    self.assertIn(word, kinds[0])

    def test_other_names(self):
        for name in ("A", "aB", "a1", "1", "abcdefghi", "a-b", "a_b", "-", "a.", "'a'", "", "a\t", "\r", "None"):
            for word in SHORT:
                self.assert_refused(f"{word} {name}\n")
            for word in NUMBERED:
                self.assert_refused(f"{word} {name} 1\n")
            self.assert_refused(f"sent {name} 1 fault\n")

    def test_other_letters(self):
        for tail in (
            "", "add", "add 5 5", "5", "5 add", "fault 5", "leave 5", "faults", "Fault", "FAULT", "leaves", "leav",
            "Add 5", "ADD 5", "adds 5", "fault leave", "fault fault", "('fault',)", "add fault", "add add 5", "fault ",
            "works", "add -", "add+5", "add-5",
        ):
            self.assert_refused(f"sent a 1 {tail}\n")
            self.assert_refused(f"sent abcdefgh 1000000000 {tail}\n")

    def test_one_wrong_row_among_right_ones(self):
        right = [row for _, row in BY_HAND]
        for at in range(len(right)):
            for wrong in ("", " ", "begins", "begins A", "lost a 0", "lost a 01", right[at] + " ", "sent a 1 add"):
                self.assert_refused("\n".join(right[:at] + [wrong] + right[at:]) + "\n")

    def test_each_sign_changed(self):
        # A text that is read at all is told just so again; so no two texts tell one list.
        for _, row in BY_HAND:
            for at in range(len(row) + 1):
                for sign in " \t\n\r-+0159azAZ_.,":
                    for text in (row[:at] + sign + row[at:] + "\n", row[:at] + sign + row[at + 1:] + "\n"):
                        found = answer(read, text)
                        if found is not BadText:
                            self.assertEqual(told(found), text)


if __name__ == "__main__":
    unittest.main()
