import copy
import unittest

from askedways.names import is_name, is_whole
from kinds import BIG, other_kinds

# The first ones beside the small letters, and those that only look like letters.
NO_LETTERS = ("`", "{", "A", "Z", "M", "0", "5", "9", " ", "\n", "\t", "-", "_", "~", "!", ".", "\u00e4", "\u0131")


class Names(unittest.TestCase):
    def test_lengths(self):
        for length in range(12):
            self.assertIs(is_name("n" * length), 1 <= length <= 8)
        self.assertIs(is_name("n" * 60000), False)

    def test_each_small_letter_by_itself(self):
        for sign in "abcdefghijklmnopqrstuvwxyz":
            self.assertIs(is_name(sign), True)
            self.assertIs(is_name("m" + sign + "m"), True)

    def test_each_sign_at_each_place(self):
        for code in range(32, 127):
            self.assertIs(is_name(chr(code)), 97 <= code <= 122)

    def test_other_signs_at_the_first_a_middle_and_the_last_place(self):
        for sign in NO_LETTERS:
            for text in (sign, sign + "ab", "a" + sign + "b", "ab" + sign):
                with self.subTest(text=text):
                    self.assertIs(is_name(text), False)

    def test_other_kinds_are_no_names(self):
        for thing in other_kinds():
            if thing not in ("a", "ann", "up", "down", "ask"):
                self.assertIs(is_name(thing), False)
        for thing in (("a",), ["a"], {"a": "b"}, {"a"}, b"a", 5, ["a", "b"], ("ann", "bob")):
            self.assertIs(is_name(thing), False)

    def test_words_are_names(self):
        for text in ("a", "z", "az", "ann", "abcdefgh", "zzzzzzzz", "tie", "row", "up"):
            self.assertIs(is_name(text), True)


class Wholes(unittest.TestCase):
    def test_whole_numbers(self):
        for number in (0, 1, -1, 2, 7, 255, 10 ** 20, BIG, -BIG, 10 ** 59, -(10 ** 59)):
            self.assertIs(is_whole(number), True)

    def test_truths_are_no_numbers(self):
        self.assertIs(is_whole(True), False)
        self.assertIs(is_whole(False), False)

    def test_other_kinds_are_no_numbers(self):
        for thing in (None, "", "0", "1", "-1", "a", (), (1,), [], [1], {}, {1: 1}, [[1]], ((0,),), 1.0, b"1"):
            self.assertIs(is_whole(thing), False)

    def test_what_is_handed_in_stays(self):
        things = other_kinds()
        for thing in things:
            ahead = copy.deepcopy(thing)
            is_whole(thing)
            is_name(thing)
            self.assertEqual(thing, ahead)


if __name__ == "__main__":
    unittest.main()
