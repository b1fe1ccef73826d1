"""Names [1] and letters [5]."""

import copy
import unittest

from tests.things import deep_things, nested, strange_things
from wardhouse.plans import is_letter, is_name

SMALL = "abcdefghijklmnopqrstuvwxyz"
OTHER_SIGNS = [chr(code) for code in range(32, 127) if chr(code) not in SMALL] + ["\t", "\n", "\r", "\r\n"]
NO_WHOLE_NUMBERS = [
    None, True, False, "", "0", "5", "add", [], [5], [[5]], (), (5,), ((5,),), {}, {5: 5}, {"a": 5},
]


class Names(unittest.TestCase):
    def test_each_small_letter(self):
        for sign in SMALL:
            self.assertIs(is_name(sign), True, sign)
            self.assertIs(is_name(sign * 8), True, sign)

    def test_one_to_eight_signs(self):
        for many in range(0, 20):
            self.assertIs(is_name("q" * many), 1 <= many <= 8, many)
            self.assertIs(is_name(SMALL[:many]), 1 <= many <= 8, many)
        self.assertIs(is_name("a" * 10 ** 6), False)

    def test_another_sign_at_any_place(self):
        for sign in OTHER_SIGNS:
            self.assertIs(is_name(sign), False, repr(sign))
            for many in range(1, 8):
                for at in range(many + 1):
                    text = SMALL[:at] + sign + SMALL[at:many]
                    self.assertIs(is_name(text), False, repr(text))

    def test_no_texts(self):
        for thing in strange_things() + deep_things():
            self.assertIs(is_name(thing), False)
        for thing in (0, 1, 97, ["a"], ["a", "b"], ("a",), ("a", "b"), {"a": "a"}, [["a"]]):
            self.assertIs(is_name(thing), False, thing)

    def test_argument(self):
        self.assertIs(is_name(thing="top"), True)


class Letters(unittest.TestCase):
    def test_add(self):
        for number in (-10 ** 9, -10 ** 9 + 1, -5, -1, 0, 1, 5, 10 ** 9 - 1, 10 ** 9):
            self.assertIs(is_letter(("add", number)), True, number)

    def test_add_beyond(self):
        for number in (-10 ** 9 - 1, 10 ** 9 + 1, -10 ** 30, 10 ** 30):
            self.assertIs(is_letter(("add", number)), False, number)

    def test_add_no_whole_number(self):
        for thing in NO_WHOLE_NUMBERS + deep_things():
            self.assertIs(is_letter(("add", thing)), False)

    def test_fault_and_leave(self):
        self.assertIs(is_letter(("fault",)), True)
        self.assertIs(is_letter(("leave",)), True)

    def test_one_thing_less_or_more(self):
        for thing in strange_things() + [0, 1, 5, "add", "fault", "leave"]:
            for letter in (("add", 5), ("fault",), ("leave",)):
                self.assertIs(is_letter(letter + (thing,)), False, letter + (thing,))
                self.assertIs(is_letter((thing,) + letter), False, (thing,) + letter)
        for letter in (("add",), (5,), ()):
            self.assertIs(is_letter(letter), False, letter)

    def test_lists_and_others_in_the_tuple_place(self):
        for thing in (
            ["add", 5], ["fault"], ["leave"], "add", "fault", "leave", "add 5", {"add": 5}, {"fault": None},
            (("add", 5),), (("fault",),), [("fault",)], (["add", 5],), (["fault"],), 5,
        ):
            self.assertIs(is_letter(thing), False, thing)

    def test_words_spoilt(self):
        for word in ("add", "fault", "leave"):
            spoilt = [word.upper(), word.capitalize(), word + " ", " " + word, word + "\n", word + "s", word[:-1], ""]
            for other in spoilt + ["sub", "worker", "sum"]:
                self.assertIs(is_letter((other,)), False, other)
                self.assertIs(is_letter((other, 5)), False, other)
        for word in ("fault", "leave"):
            self.assertIs(is_letter((word, 5)), False, word)
        self.assertIs(is_letter((5, "add")), False)

    def test_things_of_other_kinds_in_the_word_place(self):
        for thing in strange_things() + deep_things() + [["add"], ("add",), {"add": 1}, ["fault"], ("fault",)]:
            self.assertIs(is_letter((thing,)), False)
            self.assertIs(is_letter((thing, 5)), False)

    def test_things_of_other_kinds(self):
        for thing in strange_things() + deep_things():
            self.assertIs(is_letter(thing), False)

    def test_argument(self):
        self.assertIs(is_letter(thing=("leave",)), True)


class HandedIn(unittest.TestCase):
    def test_is_as_it_was(self):
        letters = [["add", 5], ("add", [5]), ("add", {"a": [5]}), (["fault"],), [("leave",)], ("add", 5), ("fault",)]
        for asked in (is_name, is_letter):
            things = strange_things() + copy.deepcopy(letters)
            before = copy.deepcopy(things)
            for thing in things:
                asked(thing)
            self.assertEqual(repr(things), repr(before))

    def test_the_same_answer_again(self):
        row = ["fault"]
        letter = ("add", row)
        self.assertIs(is_letter(letter), False)
        row.append(5)
        self.assertIs(is_letter(letter), False)
        self.assertIs(is_letter(("add", 5)), True)
        self.assertIs(is_letter(("add", True)), False)
        self.assertIs(is_letter(("add", 1)), True)
        self.assertIs(is_letter(("add", False)), False)
        self.assertIs(is_letter(("add", 0)), True)
        self.assertIs(is_name(nested(3, lambda thing: [thing])), False)


if __name__ == "__main__":
    unittest.main()
