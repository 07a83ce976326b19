import copy
import unittest

from askedways.nets import ways_of
from askedways.worlds import flying, fresh_world, is_world, state_of
from kinds import APART, BIG, FULL, LINE, SQUARE, TWO, changed_at, listed, odd, one_off, other_kinds

FRESH = ("up", 0, 0, (), (), ())
ANN = ("up", 2, 2, (("bob", 1, 1, "bob"), ("cyd", 3, 2, "bob")), (("ann", 1), ("ann", 2)), ("bob",))
BOB = ("down", 1, 0, (("ann", BIG), ("cyd", 3)))
CYD = ("up", 4, 0, (("ann", 2, None, None),), (("ann", 2),), ())
NOTE = ("note", "cyd", (3, 1))
ASK = ("ask", "ann", 2, "cyd", 0, (2, 0))
BROKEN = ("broken", (("ann", 2),))
# LINE's ways: ann bob, bob ann, bob cyd, cyd bob.
WORLD = ((ANN, BOB, CYD), ((ASK, ASK), (), (NOTE,), (BROKEN, NOTE, BROKEN)))


class IsWorld(unittest.TestCase):
    def check(self, answer, *things, net=LINE):
        for thing in things:
            with self.subTest(thing=thing):
                self.assertIs(is_world(net, thing), answer)

    def test_worlds(self):
        self.check(True, WORLD, fresh_world(LINE), ((BOB[:3] + ((),),) * 3, ((),) * 4))

    def test_many_letters(self):
        self.check(True, (WORLD[0], ((NOTE,) * 200, (), (), ())), (WORLD[0], ((NOTE, ASK) * 150, (), (), (NOTE,))))

    def test_a_state_more_or_fewer(self):
        states, flights = WORLD
        self.check(False, (states[:2], flights), (states[1:], flights), ((), flights), (states + (FRESH,), flights))
        self.check(False, ((FRESH,) * 2, flights), ((FRESH,) * 4, flights))

    def test_a_way_more_or_fewer(self):
        states, flights = WORLD
        self.check(False, (states, flights[:3]), (states, flights[1:]), (states, ()), (states, flights + ((),)))
        self.check(False, (states, ((),) * 2), (states, ((),) * 3), (states, ((),) * 5))

    def test_two_states_exchanged(self):
        self.check(False, ((BOB, ANN, CYD), WORLD[1]), ((ANN, CYD, BOB), WORLD[1]), ((CYD, BOB, ANN), WORLD[1]))

    def test_a_state_that_is_none(self):
        for thing in other_kinds() + [ANN + (0,), ("up", -1, 0, (), (), ()), list(FRESH)]:
            for at in range(3):
                self.check(False, (WORLD[0][:at] + (thing,) + WORLD[0][at + 1:], WORLD[1]))

    def test_a_letter_that_is_none(self):
        for thing in other_kinds() + [("note", "dan", (1, 1)), ("note", "cyd", None), ("broken", ()), list(NOTE)]:
            for at in range(4):
                self.check(False, (WORLD[0], WORLD[1][:at] + ((NOTE, thing),) + WORLD[1][at + 1:]))
                self.check(False, (WORLD[0], WORLD[1][:at] + ((thing,),) + WORLD[1][at + 1:]))
                self.check(thing == (), (WORLD[0], WORLD[1][:at] + (thing,) + WORLD[1][at + 1:]))

    def test_the_world_of_another_net(self):
        for net in (TWO, APART, FULL, SQUARE):
            self.check(False, WORLD, net=net)
            self.check(False, fresh_world(LINE), net=net)
            self.check(False, fresh_world(net))
        self.check(False, WORLD, net=(("ann", "bob", "cyd"), (("ann", "cyd"), ("bob", "cyd"))))
        self.check(False, WORLD, net=(("ann", "bob", "dan"), (("ann", "bob"), ("bob", "dan"))))

    def test_parts_too_many_or_too_few(self):
        self.check(False, (), WORLD[:1], WORLD[1:], WORLD + ((),), WORLD + WORLD, WORLD[::-1], (WORLD,))

    def test_lists_are_no_tuples(self):
        self.check(False, *changed_at(WORLD, listed))

    def test_other_kinds(self):
        self.check(False, *other_kinds())
        for thing in other_kinds():
            self.check(False, (thing, WORLD[1]), (WORLD[0], thing))

    def test_what_is_told_is_a_truth_whatever_is_changed(self):
        for made in (odd, one_off):
            for thing in changed_at(WORLD, made):
                ahead = copy.deepcopy(thing)
                self.assertIs(type(is_world(LINE, thing)), bool)
                self.assertEqual(thing, ahead)


class Fresh(unittest.TestCase):
    def test_fresh_worlds(self):
        for net in (TWO, LINE, APART, FULL, SQUARE):
            world = fresh_world(net)
            self.assertEqual(repr(world), repr(((FRESH,) * len(net[0]), ((),) * len(ways_of(net)))))
            self.assertIs(is_world(net, world), True)

    def test_its_houses_and_ways(self):
        self.assertEqual(fresh_world(TWO), ((FRESH, FRESH), ((), ())))
        self.assertEqual(fresh_world(APART), ((FRESH, FRESH, FRESH), ()))


class Asked(unittest.TestCase):
    def test_state_of_each_house(self):
        for house, state in (("ann", ANN), ("bob", BOB), ("cyd", CYD)):
            self.assertEqual(repr(state_of(LINE, WORLD, house)), repr(state))
        for house in SQUARE[0]:
            self.assertEqual(state_of(SQUARE, fresh_world(SQUARE), house), FRESH)

    def test_flying_of_each_way(self):
        for (one, other), letters in zip((("ann", "bob"), ("bob", "ann"), ("bob", "cyd"), ("cyd", "bob")), WORLD[1]):
            self.assertEqual(repr(flying(LINE, WORLD, one, other)), repr(letters))

    def test_two_hundred_letters_in_their_order(self):
        letters = tuple(("note", "cyd", (1 + at % 7, at)) for at in range(200)) + (NOTE, ASK, NOTE, NOTE)
        world = (WORLD[0], ((), letters, (NOTE,), ()))
        self.assertEqual(flying(LINE, world, "bob", "ann"), letters)
        self.assertEqual(flying(LINE, world, "ann", "bob"), ())
        self.assertEqual(flying(LINE, world, "bob", "cyd"), (NOTE,))

    def test_where_there_is_no_way_there_are_no_letters(self):
        self.assertEqual(flying(LINE, WORLD, "ann", "cyd"), ())
        self.assertEqual(flying(LINE, WORLD, "bob", "bob"), ())

    def test_the_world_stays(self):
        ahead = copy.deepcopy(WORLD)
        for house in LINE[0]:
            state_of(LINE, WORLD, house)
        flying(LINE, WORLD, "cyd", "bob")
        self.assertEqual(WORLD, ahead)


if __name__ == "__main__":
    unittest.main()
