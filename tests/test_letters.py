import copy
import unittest

from askedways.letters import claim_of, is_letter
from kinds import BIG, LINE, SQUARE, TWO, changed_at, listed, odd, one_off, other_kinds

ASK = ("ask", "ann", 1, "cyd", 0, (1, 0))
ANSWER = ("answer", "ann", "cyd", (4, 2))
BROKEN = ("broken", (("ann", 3), ("cyd", 1), ("eve", BIG)))
NOTE = ("note", "cyd", (2, 5))
LETTERS = (ASK, ANSWER, BROKEN, NOTE)
NO_CLAIMS = (
    None, (1, None), (0, 0), (-1, 0), (1, -1), (True, 0), (1, True), (1, False), (1,), (1, 0, 0), (), [1, 0], {},
    "10", 1, 0, True, (None, None), (None, 0), ("1", 0), (1, "0"), ((1, 0),),
)
NO_HOUSES = ("zoe", "", None, 0, 1, True, ("ann",), ["ann"], {}, "Ann")


class IsLetter(unittest.TestCase):
    def check(self, answer, *things, net=SQUARE):
        for thing in things:
            with self.subTest(thing=thing):
                self.assertIs(is_letter(net, thing), answer)

    def test_each_of_the_four_kinds(self):
        self.check(True, *LETTERS)
        self.check(True, ("ask", "eve", BIG, "ann", BIG, (BIG, BIG)), ("answer", "eve", "ann", (1, 0)))
        self.check(True, ("broken", (("bob", 1),)), ("note", "ann", (BIG, 0)), ("note", "eve", (1, BIG)))

    def test_any_two_unlike_houses(self):
        for one in SQUARE[0]:
            for other in SQUARE[0]:
                self.check(one != other, ("ask", one, 1, other, 0, (1, 0)), ("answer", one, other, (1, 0)))

    def test_no_houses(self):
        for thing in NO_HOUSES:
            self.check(False, ("ask", thing, 1, "cyd", 0, (1, 0)), ("ask", "ann", 1, thing, 0, (1, 0)))
            self.check(False, ("answer", thing, "cyd", (1, 0)), ("answer", "ann", thing, (1, 0)))
            self.check(False, ("note", thing, (1, 0)), ("broken", ((thing, 1),)), ("broken", (("ann", 1), (thing, 1))))

    def test_ask(self):
        for ask in (1, 2, BIG):
            self.check(True, ("ask", "ann", ask, "cyd", 0, (1, 0)))
        for ask in (0, -1, -BIG, True, False, None, "1", (1,), [1]):
            self.check(False, ("ask", "ann", ask, "cyd", 0, (1, 0)))

    def test_least(self):
        for least in (0, 1, BIG):
            self.check(True, ("ask", "ann", 1, "cyd", least, (1, 0)))
        for least in (-1, -BIG, True, False, None, "0", (0,), [0]):
            self.check(False, ("ask", "ann", 1, "cyd", least, (1, 0)))

    def test_claims(self):
        for claim in ((1, 0), (1, 1), (BIG, BIG)):
            self.check(True, ASK[:5] + (claim,), ANSWER[:3] + (claim,), NOTE[:2] + (claim,))
        for claim in NO_CLAIMS:
            self.check(False, ASK[:5] + (claim,), ANSWER[:3] + (claim,), NOTE[:2] + (claim,))

    def test_broken_rows(self):
        self.check(True, ("broken", (("ann", 1), ("bob", 1), ("cyd", 1), ("dan", 1), ("eve", 1))))
        self.check(True, ("broken", (("ann", 9), ("bob", 1))))
        for rows in ((), [], {}, None, "", 0, (("ann", 0),), (("ann", -1),), (("ann", True),), (("ann", None),),
                     (("ann", "1"),), (("ann",),), (("ann", 1, 1),), ("ann",), ((),), (None,), ("ann", 1),
                     (("bob", 1), ("ann", 1)), (("ann", 1), ("ann", 1)), (("ann", 1), ("ann", 2)),
                     (("ann", 2), ("ann", 1)), [("ann", 1)], (["ann", 1],), {"ann": 1}, (("ann", 1), None)):
            self.check(False, ("broken", rows))

    def test_other_words(self):
        for letter in LETTERS:
            for word in ("", "ASK", "asks", "tell", "ann", None, 0, True, ("ask",), ["ask"], {}):
                self.check(False, (word,) + letter[1:])
            for word in ("ask", "answer", "broken", "note"):
                self.check(word == letter[0], (word,) + letter[1:])

    def test_parts_too_many_or_too_few(self):
        for letter in LETTERS:
            for at in range(len(letter)):
                self.check(False, letter[:at] + letter[at + 1:], letter[:at])
            self.check(False, letter + (None,), letter + ((1, 0),), letter + letter, (letter,))

    def test_lists_are_no_tuples(self):
        for letter in LETTERS:
            self.check(False, *changed_at(letter, listed))

    def test_asked_of_another_net(self):
        self.check(True, ASK, ANSWER, NOTE, ("broken", (("ann", 3),)), net=LINE)
        self.check(False, BROKEN, ("ask", "ann", 1, "dan", 0, (1, 0)), ("note", "eve", (1, 0)), net=LINE)
        self.check(False, *LETTERS, net=TWO)
        self.check(True, ("answer", "a", "b", (1, 0)), net=TWO)

    def test_other_kinds(self):
        self.check(False, *other_kinds())

    def test_what_is_told_is_a_truth_whatever_is_changed(self):
        for letter in LETTERS:
            for made in (odd, one_off):
                for thing in changed_at(letter, made):
                    ahead = copy.deepcopy(thing)
                    self.assertIs(type(is_letter(SQUARE, thing)), bool)
                    self.assertEqual(thing, ahead)


class ClaimOf(unittest.TestCase):
    def test_each_kind(self):
        self.assertEqual(repr(claim_of(ASK)), "('ann', (1, 0))")
        self.assertEqual(repr(claim_of(ANSWER)), "('cyd', (4, 2))")
        self.assertEqual(repr(claim_of(NOTE)), "('cyd', (2, 5))")
        self.assertEqual(claim_of(("ask", "eve", 9, "bob", 8, (BIG, BIG))), ("eve", (BIG, BIG)))
        self.assertEqual(claim_of(("answer", "eve", "bob", (BIG, 0))), ("bob", (BIG, 0)))

    def test_none_of_what_is_broken(self):
        self.assertIs(claim_of(BROKEN), None)
        self.assertIs(claim_of(("broken", (("ann", 1),))), None)


if __name__ == "__main__":
    unittest.main()
