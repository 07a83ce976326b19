import copy
import unittest

from askedways.learning import broken_by, learnt
from askedways.states import is_state
from kinds import BIG, SQUARE

# A state of bob, whose neighbours in SQUARE are ann and cyd.
TABLE = (("ann", 4, 2, "cyd"), ("cyd", 5, 1, "cyd"), ("dan", 7, None, None))
STATE = ("up", 3, 5, TABLE, (("ann", 4), ("eve", 9)), ("ann", "cyd"))


def with_table(*table):
    return STATE[:3] + (table,) + STATE[4:]


class Learnt(unittest.TestCase):
    def check(self, wanted, label, other, *table):
        ahead = copy.deepcopy(STATE)
        told = learnt(STATE, "bob", wanted, label, other)
        self.assertEqual(repr(told), repr(with_table(*table)))
        self.assertIs(is_state(SQUARE, "bob", told), True)
        self.assertEqual(STATE, ahead)

    def stays(self, wanted, label, other):
        self.check(wanted, label, other, *TABLE)

    def test_nearer_by_steps(self):
        self.check("ann", (4, 0), "ann", ("ann", 4, 1, "ann"), TABLE[1], TABLE[2])

    def test_nearer_by_the_number(self):
        self.check("ann", (5, 9), "ann", ("ann", 5, 10, "ann"), TABLE[1], TABLE[2])
        self.check("cyd", (BIG, BIG), "ann", TABLE[0], ("cyd", BIG, BIG + 1, "ann"), TABLE[2])

    def test_as_near(self):
        self.stays("ann", (4, 1), "ann")
        self.stays("ann", (4, 1), "cyd")
        self.stays("cyd", (5, 0), "ann")

    def test_farther(self):
        self.stays("ann", (4, 2), "ann")
        self.stays("ann", (3, 0), "ann")
        self.stays("cyd", (4, 0), "cyd")
        self.stays("dan", (6, 0), "cyd")

    def test_of_a_house_without_a_row(self):
        self.check("eve", (1, 0), "cyd", *TABLE, ("eve", 1, 1, "cyd"))
        told = learnt(("up", 0, 0, (), (), ("cyd",)), "bob", "ann", (2, 3), "cyd")
        self.assertEqual(told, ("up", 0, 0, (("ann", 2, 4, "cyd"),), (), ("cyd",)))

    def test_of_a_house_with_a_broken_row(self):
        self.check("dan", (7, 9), "ann", TABLE[0], TABLE[1], ("dan", 7, 10, "ann"))
        self.check("dan", (8, 0), "cyd", TABLE[0], TABLE[1], ("dan", 8, 1, "cyd"))

    def test_of_the_house_itself(self):
        for label in ((1, 0), (3, 0), (4, 0), (BIG, 3)):
            self.stays("bob", label, "ann")
        fresh = ("up", 0, 0, (), (), ("ann",))
        self.assertEqual(learnt(fresh, "bob", "bob", (1, 0), "ann"), fresh)

    def test_the_row_in_its_place(self):
        rows = [("ann", 1, 1, "ann"), ("cyd", 1, 1, "cyd"), ("dan", 1, None, None), ("eve", 1, None, None)]
        for at, row in enumerate(rows):
            state = with_table(*rows[:at], *rows[at + 1:])
            told = learnt(state, "bob", row[0], (2, 2), "ann")
            self.assertEqual(told, with_table(*rows[:at], (row[0], 2, 3, "ann"), *rows[at + 1:]))


class BrokenBy(unittest.TestCase):
    def check(self, wanted, number, *table):
        ahead = copy.deepcopy(STATE)
        told = broken_by(STATE, wanted, number)
        self.assertEqual(repr(told), repr(with_table(*table)))
        self.assertIs(is_state(SQUARE, "bob", told), True)
        self.assertEqual(STATE, ahead)

    def test_a_greater_number(self):
        self.check("ann", 5, ("ann", 5, None, None), TABLE[1], TABLE[2])
        self.check("cyd", BIG, TABLE[0], ("cyd", BIG, None, None), TABLE[2])

    def test_the_same_number(self):
        self.check("ann", 4, *TABLE)
        self.check("cyd", 5, *TABLE)

    def test_a_lesser_number(self):
        self.check("ann", 3, *TABLE)
        self.check("ann", 1, *TABLE)

    def test_of_a_broken_row(self):
        for number in (6, 7, 8, BIG):
            self.check("dan", number, *TABLE)

    def test_of_no_row(self):
        self.check("eve", 1, *TABLE)
        self.check("bob", 9, *TABLE)


if __name__ == "__main__":
    unittest.main()
