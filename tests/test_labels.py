import copy
import unittest

from askedways.labels import is_label, is_nearer, label_in, row_in
from kinds import BIG, other_kinds

LABELS = (
    (1, None), (1, 9), (1, 2), (1, 1), (1, 0), (2, None), (2, BIG), (2, 3), (2, 0), (3, None), (3, 1),
    (BIG, None), (BIG, 1), (BIG, 0),
)
# Beginning with None, each label of this list is nearer than all ahead of it.
BY_NEARNESS = (None,) + LABELS


class IsLabel(unittest.TestCase):
    def check(self, answer, *things):
        for thing in things:
            with self.subTest(thing=thing):
                self.assertIs(is_label(thing), answer)

    def test_labels(self):
        self.check(True, *BY_NEARNESS)
        self.check(True, (1, 0), (1, 1), (1, None), (BIG, BIG))

    def test_numbers(self):
        self.check(False, (0, 0), (0, None), (-1, 0), (-BIG, 1), (None, 0), (None, None), ("1", 0), ((1,), 0), ([], 0))

    def test_steps(self):
        self.check(False, (1, -1), (1, -BIG), (1, "0"), (1, ()), (1, []), (1, {}), (1, (0,)))

    def test_truths_are_no_numbers(self):
        self.check(False, (True, 0), (True, None), (1, True), (1, False), (2, True), (True, True), (False, 0))

    def test_lists_are_no_tuples(self):
        self.check(False, [1, 0], [1, None], [], [None])

    def test_parts_too_many_or_too_few(self):
        self.check(False, (), (1,), (1, 0, 0), (1, 0, None), (1, None, None), (None,), (0,))

    def test_other_kinds(self):
        for thing in other_kinds():
            self.check(thing is None, thing)
            self.check(thing is None or (isinstance(thing, int) and thing >= 0 and not isinstance(thing, bool)),
                       (1, thing))
            self.check(isinstance(thing, int) and thing >= 1 and not isinstance(thing, bool), (thing, 0))
        self.check(False, "10", {1: 0}, 1, 0, {"number": 1, "steps": 0})

    def test_what_is_handed_in_stays(self):
        for thing in other_kinds():
            ahead = copy.deepcopy(thing)
            is_label(thing)
            self.assertEqual(thing, ahead)


class IsNearer(unittest.TestCase):
    def test_none_and_a_label(self):
        for label in LABELS:
            self.assertIs(is_nearer(label, None), True)
            self.assertIs(is_nearer(None, label), False)
        self.assertIs(is_nearer(None, None), False)

    def test_unlike_numbers_whatever_the_steps(self):
        for steps in (None, 0, 1, 7, BIG):
            for other_steps in (None, 0, 1, 7, BIG):
                self.assertIs(is_nearer((3, steps), (2, other_steps)), True)
                self.assertIs(is_nearer((2, steps), (3, other_steps)), False)
                self.assertIs(is_nearer((BIG, steps), (BIG - 1, other_steps)), True)

    def test_the_same_number(self):
        for number in (1, 2, BIG):
            self.assertIs(is_nearer((number, 0), (number, None)), True)
            self.assertIs(is_nearer((number, 5), (number, None)), True)
            self.assertIs(is_nearer((number, None), (number, 0)), False)
            self.assertIs(is_nearer((number, None), (number, 5)), False)
            self.assertIs(is_nearer((number, 1), (number, 2)), True)
            self.assertIs(is_nearer((number, 2), (number, 1)), False)
            self.assertIs(is_nearer((number, 0), (number, 1)), True)
            self.assertIs(is_nearer((number, 1), (number, 0)), False)

    def test_alike_labels(self):
        for label in BY_NEARNESS:
            self.assertIs(is_nearer(label, label), False)
        self.assertIs(is_nearer((4, None), (4, None)), False)

    def test_of_two_unlike_labels_just_one_is_nearer(self):
        for at, one in enumerate(BY_NEARNESS):
            for place, other in enumerate(BY_NEARNESS):
                self.assertIs(is_nearer(one, other), at > place)


class InAState(unittest.TestCase):
    table = (("ann", 4, 2, "cyd"), ("cyd", BIG, 1, "cyd"), ("dan", 7, None, None))
    state = ("up", 3, 5, table, (("ann", 4), ("eve", 9)), ("cyd",))
    fresh = ("up", 0, 0, (), (), ())
    down = ("down", 3, 5, (("ann", 4), ("dan", 7)))

    def test_rows(self):
        self.assertEqual(row_in(self.state, "ann"), ("ann", 4, 2, "cyd"))
        self.assertEqual(row_in(self.state, "cyd"), ("cyd", BIG, 1, "cyd"))

    def test_a_broken_row(self):
        self.assertEqual(row_in(self.state, "dan"), ("dan", 7, None, None))
        self.assertEqual(label_in(self.state, "bob", "dan"), (7, None))

    def test_no_row(self):
        for house in ("eve", "bob"):
            self.assertIs(row_in(self.state, house), None)
        self.assertIs(row_in(self.fresh, "ann"), None)
        self.assertIs(label_in(self.state, "bob", "eve"), None)
        self.assertIs(label_in(self.fresh, "bob", "ann"), None)

    def test_a_house_that_is_down_has_no_row(self):
        for house in ("ann", "dan", "eve"):
            self.assertIs(row_in(self.down, house), None)

    def test_labels_of_others(self):
        self.assertEqual(label_in(self.state, "bob", "ann"), (4, 2))
        self.assertEqual(label_in(self.state, "bob", "cyd"), (BIG, 1))

    def test_the_label_of_the_house_itself(self):
        self.assertEqual(label_in(self.state, "bob", "bob"), (3, 0))
        self.assertIs(label_in(self.fresh, "bob", "bob"), None)
        self.assertEqual(label_in(("up", 1, 0, (), (), ()), "bob", "bob"), (1, 0))
        self.assertEqual(label_in(("up", BIG, 0, (), (), ()), "bob", "bob"), (BIG, 0))
        self.assertIs(label_in(("up", 0, 4, self.table, (), ("cyd",)), "bob", "bob"), None)

    def test_kinds(self):
        self.assertIs(type(row_in(self.state, "ann")), tuple)
        for wanted in ("ann", "bob", "cyd", "dan", "eve"):
            self.assertIs(is_label(label_in(self.state, "bob", wanted)), True)

    def test_the_state_stays(self):
        ahead = copy.deepcopy(self.state)
        for wanted in ("ann", "bob", "cyd", "dan", "eve"):
            row_in(self.state, wanted)
            label_in(self.state, "bob", wanted)
        self.assertEqual(self.state, ahead)


if __name__ == "__main__":
    unittest.main()
