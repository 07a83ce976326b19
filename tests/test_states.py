import copy
import unittest

from askedways.states import fresh_state, is_state
from kinds import APART, BIG, FULL, LINE, SQUARE, TWO, changed_at, listed, odd, one_off, other_kinds

# States of bob, whose neighbours in SQUARE are ann and cyd.
TABLE = (("ann", 1, 1, "ann"), ("cyd", 4, None, None), ("dan", BIG, 3, "ann"), ("eve", 2, BIG, "cyd"))
SEEN = (("ann", 1), ("ann", BIG), ("bob", 2), ("eve", 7))
WHOLE = ("up", 3, 5, TABLE, SEEN, ("ann", "cyd"))
DOWN = ("down", 3, 5, (("ann", 1), ("cyd", BIG), ("dan", 2), ("eve", 9)))


class IsState(unittest.TestCase):
    def check(self, answer, *things, net=SQUARE, house="bob"):
        for thing in things:
            with self.subTest(thing=thing):
                self.assertIs(is_state(net, house, thing), answer)

    def up(self, own=0, asks=0, table=(), seen=(), ties=("ann", "cyd")):
        return ("up", own, asks, table, seen, ties)

    def rows(self, *table):
        return self.up(table=table)

    def test_states(self):
        self.check(True, WHOLE, DOWN, ("up", 0, 0, (), (), ()), ("down", 0, 0, ()))

    def test_own_and_asks(self):
        for number in (0, 1, 2, BIG):
            self.check(True, self.up(own=number), self.up(asks=number), ("down", number, 0, ()), ("down", 0, number, ()))
        for thing in (-1, -BIG, True, False, None, "0", "", (0,), [0], {}):
            self.check(False, self.up(own=thing), self.up(asks=thing), ("down", thing, 0, ()), ("down", 0, thing, ()))

    def test_words(self):
        for word in ("", "UP", "up ", "down", "ups", None, 0, True, ("up",), ["up"], {}, "ann"):
            self.check(False, (word,) + WHOLE[1:], (word,) + fresh_state()[1:])
        for word in ("", "DOWN", "up", None, 0, ("down",), ["down"], {}):
            self.check(False, (word,) + DOWN[1:], (word, 0, 0, ()))

    def test_parts_too_many_or_too_few(self):
        for at in range(len(WHOLE)):
            self.check(False, WHOLE[:at] + WHOLE[at + 1:], WHOLE[:at])
        for at in range(len(DOWN)):
            self.check(False, DOWN[:at] + DOWN[at + 1:], DOWN[:at])
        self.check(False, WHOLE + ((),), DOWN + ((),), WHOLE + (None,), DOWN + ((), ()), fresh_state() + (0,))
        self.check(False, ("up", 0, 0, ()), ("down", 0, 0, (), (), ()))

    def test_lists_are_no_tuples(self):
        self.check(False, *changed_at(WHOLE, listed))
        self.check(False, *changed_at(DOWN, listed))
        self.check(False, *changed_at(fresh_state(), listed))

    def test_none_and_all_of_the_others_in_the_table(self):
        for many in range(5):
            self.check(True, self.rows(*TABLE[:many]), self.rows(*TABLE[many:]))

    def test_of_a_row(self):
        self.check(True, self.rows(("ann", 1, 1, "ann")), self.rows(("ann", 1, 1, "cyd")), self.rows(("eve", 1, 9, "ann")))
        self.check(True, self.rows(("ann", 1, None, None)), self.rows(("eve", BIG, None, None)))
        for wanted in ("bob", "zoe", "", None, 1, ("ann",), ["ann"], {}):
            self.check(False, self.rows((wanted, 1, 1, "ann")), self.rows((wanted, 1, None, None)))
        for number in (0, -1, True, False, None, "1", (1,), [1]):
            self.check(False, self.rows(("ann", number, 1, "ann")), self.rows(("ann", number, None, None)))
        for steps in (0, -1, True, False, "1", (1,), [1], {}):
            self.check(False, self.rows(("ann", 1, steps, "ann")), self.rows(("ann", 1, steps, None)))

    def test_only_one_of_steps_and_next_none(self):
        self.check(False, self.rows(("ann", 1, None, "ann")), self.rows(("ann", 1, 1, None)))
        self.check(False, self.rows(("ann", 1, None, "cyd")), self.rows(("ann", 1, None, False)))
        self.check(False, self.rows(("ann", 1, None, ())), self.rows(("ann", 1, None, "")))

    def test_the_next_is_a_tie(self):
        for onward in ("dan", "bob", "eve", "zoe", "", 1, True, ("ann",), ["ann"], {}):
            self.check(False, self.rows(("ann", 1, 1, onward)))
        row = ("dan", 1, 2, "cyd")
        self.check(True, self.up(table=(row,), ties=("cyd",)))
        self.check(False, self.up(table=(row,), ties=("ann",)), self.up(table=(row,), ties=()))
        self.check(True, self.up(table=(("dan", 1, None, None),), ties=()))

    def test_rows_of_a_wrong_size(self):
        self.check(False, self.rows(("ann", 1, 1)), self.rows(("ann", 1, 1, "ann", "ann")), self.rows(()))
        self.check(False, self.rows(("ann", 1, None)), self.rows(None), self.rows("ann"), self.rows(0))

    def test_tables_not_rising_or_of_a_house_two(self):
        ann, cyd = ("ann", 1, 1, "ann"), ("cyd", 1, 1, "cyd")
        self.check(True, self.rows(ann, cyd))
        self.check(False, self.rows(cyd, ann), self.rows(ann, ann), self.rows(ann, ("ann", 2, 1, "ann")))
        self.check(False, self.rows(("ann", 1, None, None), ("ann", 1, 1, "ann")))
        self.check(False, self.rows(("ann", 1, 1, "ann"), ("ann", 1, None, None)))
        self.check(False, self.rows(("ann", 1, None, None), ("ann", 1, None, None)))
        self.check(False, self.rows(ann, cyd, ann), self.up(table={}), self.up(table=None), self.up(table=""))

    def test_seen(self):
        for house in SQUARE[0]:
            self.check(True, self.up(seen=((house, 1),)), self.up(seen=((house, 1), (house, 2), (house, BIG))))
        self.check(True, self.up(seen=SEEN))
        for asker in ("zoe", "", None, 1, ("ann",), ["ann"]):
            self.check(False, self.up(seen=((asker, 1),)))
        for ask in (0, -1, True, False, None, "1", (1,), [1]):
            self.check(False, self.up(seen=(("ann", ask),)))
        self.check(False, self.up(seen=(("ann", 2), ("ann", 1))), self.up(seen=(("ann", 1), ("ann", 1))))
        self.check(False, self.up(seen=(("bob", 1), ("ann", 2))), self.up(seen=(("ann",),)), self.up(seen=((),)))
        self.check(False, self.up(seen=(("ann", 1, 1),)), self.up(seen=("ann",)), self.up(seen=None), self.up(seen={}))

    def test_ties(self):
        for ties in ((), ("ann",), ("cyd",), ("ann", "cyd")):
            self.check(True, self.up(ties=ties))
        for ties in (("cyd", "ann"), ("ann", "ann"), ("bob",), ("dan",), ("ann", "dan"), ("zoe",), ("",), (None,), (1,),
                     (("ann",),), (["ann"],), ("ann", "cyd", "cyd"), ("ann", "cyd", "dan"), "ann", None, {}, 0):
            self.check(False, self.up(ties=ties))
        self.check(True, ("up", 0, 0, (), (), ("ann", "bob", "cyd", "eve")), net=FULL, house="dan")

    def test_known(self):
        for many in range(5):
            self.check(True, DOWN[:3] + (DOWN[3][:many],), DOWN[:3] + (DOWN[3][many:],))
        for known in ((("bob", 1),), (("zoe", 1),), (("", 1),), ((None, 1),), (("ann", 0),), (("ann", -1),),
                      (("ann", True),), (("ann", None),), (("ann", "1"),), (("ann",),), (("ann", 1, 1),), ((),),
                      ("ann",), (None,), None, {}, {"ann": 1}, "", 0, (("cyd", 1), ("ann", 1)),
                      (("ann", 1), ("ann", 2)), (("ann", 1), ("ann", 1)), (("ann", 2), ("ann", 1))):
            self.check(False, ("down", 0, 0, known))

    def test_the_same_thing_asked_of_another_house(self):
        self.check(False, WHOLE, DOWN, house="ann")
        self.check(False, WHOLE, DOWN, house="eve")
        self.check(False, WHOLE, DOWN, net=LINE)
        self.check(False, ("up", 0, 0, (), (), ("ann",)), house="eve")
        self.check(True, ("up", 0, 0, (), (), ("ann",)), house="dan")
        self.check(False, ("up", 0, 0, (), (), ("ann",)), net=APART)
        self.check(True, ("up", 0, 0, (("ann", 1, None, None),), (("cyd", 1),), ()), net=APART)
        self.check(False, ("down", 0, 0, (("b", 1),)), net=TWO, house="b")
        self.check(True, ("down", 0, 0, (("b", 1),)), net=TWO, house="a")

    def test_other_kinds(self):
        self.check(False, *other_kinds())
        for thing in other_kinds():
            self.check(thing == (), self.up(table=thing), self.up(seen=thing), ("down", 0, 0, thing))
            self.check(thing in ((), ("ann",)), self.up(ties=thing))
            self.check(False, self.rows(thing), self.up(seen=(thing,)), ("down", 0, 0, (thing,)))
            self.check(thing == "ann", self.up(ties=(thing,)))

    def test_what_is_told_is_a_truth_whatever_is_changed(self):
        for state in (WHOLE, DOWN):
            for made in (odd, one_off):
                for thing in changed_at(state, made):
                    ahead = copy.deepcopy(thing)
                    self.assertIs(type(is_state(SQUARE, "bob", thing)), bool)
                    self.assertEqual(thing, ahead)


class Fresh(unittest.TestCase):
    def test_the_fresh_state(self):
        self.assertEqual(repr(fresh_state()), "('up', 0, 0, (), (), ())")

    def test_it_is_one_of_each_house(self):
        for net in (TWO, LINE, APART, FULL, SQUARE):
            for house in net[0]:
                self.assertIs(is_state(net, house, fresh_state()), True)


if __name__ == "__main__":
    unittest.main()
