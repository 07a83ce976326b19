import copy
import itertools
import random
import unittest

from askedways.ranks import is_ranked, ranked
from askedways.runs import worlds_of
from askedways.ways import ring_in
from askedways.worlds import fresh_world
from kinds import BIG, FULL, HOUSES, LINE, SQUARE, TWO, drawn_run, drawn_world, other_kinds, world_with

# For eve: ann by bob by eve, dan by ann; cyd has none.
WORLD = world_with(FULL, {"ann": [("eve", 2, 2, "bob")], "bob": [("eve", 2, 1, "eve")], "dan": [("eve", 1, 5, "ann")]})
RING = world_with(FULL, {"ann": [("eve", 2, 2, "bob")], "bob": [("eve", 2, 1, "ann"), ("dan", 1, 1, "dan")]})


def lets_by(net, world, wanted, order):
    """Whether an order of all houses is a ranking, by the words of point 18."""
    if order[0] != wanted:
        return False
    for house, state in zip(net[0], world[0]):
        if house != wanted and state[0] == "up":
            for row in state[3]:
                if row[0] == wanted and row[2] is not None and order.index(row[3]) > order.index(house):
                    return False
    return True


class Ranked(unittest.TestCase):
    def check(self, net, world):
        """That for each wanted house there is a told ranking or a ring, and is_ranked lets by just the right orders."""
        told = []
        for wanted in net[0]:
            kept = copy.deepcopy(world)
            ranking = ranked(net, world, wanted)
            right = [list(order) for order in itertools.permutations(net[0]) if lets_by(net, world, wanted, order)]
            self.assertEqual(ranking is None, right == [])
            if ranking is not None:
                self.assertIs(type(ranking), list)
                self.assertIn(ranking, right)
                again = list(ranking)
                ranking.clear()
                self.assertEqual(ranked(net, world, wanted), again)
            for order in itertools.permutations(net[0]):
                self.assertIs(is_ranked(net, world, wanted, list(order)), list(order) in right)
            self.assertEqual(world, kept)
            told.append(right)
        return told

    def test_fresh(self):
        for net in (TWO, LINE, SQUARE, FULL):
            self.check(net, fresh_world(net))

    def test_where_there_is_no_ring(self):
        self.check(FULL, WORLD)
        ranking = ranked(FULL, WORLD, "eve")
        self.assertEqual(ranking[0], "eve")
        self.assertEqual([house for house in ranking if house != "cyd"], ["eve", "bob", "ann", "dan"])

    def test_where_there_is_one(self):
        self.check(FULL, RING)
        self.assertIsNone(ranked(FULL, RING, "eve"))
        for wanted in ("ann", "bob", "cyd", "dan"):
            self.assertIsNotNone(ranked(FULL, RING, wanted))
        for order in itertools.permutations(HOUSES):
            self.assertIs(is_ranked(FULL, RING, "eve", list(order)), False)

    def test_houses_that_are_down_and_broken_rows_are_free(self):
        world = world_with(FULL, {"ann": [("eve", 2, 2, "bob")], "bob": [("eve", 2, 1, "ann")]}, {"bob": [("eve", 3)]})
        self.check(FULL, world)
        self.assertIs(is_ranked(FULL, world, "eve", ["eve", "bob", "ann", "cyd", "dan"]), True)
        self.assertIs(is_ranked(FULL, world, "eve", ["eve", "ann", "bob", "cyd", "dan"]), False)
        world = world_with(FULL, {"ann": [("eve", 2, 2, "bob")], "bob": [("eve", 3, None, None)]})
        self.check(FULL, world)
        # The wanted house's own rows don't count, nor whether it is down.
        world = world_with(FULL, {"ann": [("eve", 2, 2, "eve")], "eve": [("ann", 1, 1, "ann")]})
        self.check(FULL, world)
        self.check(FULL, world_with(FULL, {"ann": [("eve", 2, 2, "eve")]}, {"eve": []}))

    def test_over_drawn_worlds(self):
        dice = random.Random(18)
        none = 0
        for turn in range(120):
            net = dice.choice((TWO, LINE, SQUARE, FULL))
            world = drawn_world(dice, net)
            told = self.check(net, world)
            # There is just one of the two: a ring for some wanted house, or rankings for all.
            self.assertEqual([] in told, ring_in(net, world) is not None)
            none += [] in told
        self.assertGreater(none, 20)

    def test_over_runs(self):
        for at in range(4):
            net = (SQUARE, FULL)[at % 2]
            for world in worlds_of(drawn_run(random.Random(at), ("kept", "wait")[at // 2], net, 60))[::6]:
                self.assertNotIn([], self.check(net, world))


class IsRanked(unittest.TestCase):
    right = ["eve", "cyd", "bob", "ann", "dan"]

    def check(self, answer, *things, wanted="eve", world=WORLD):
        for thing in things:
            with self.subTest(thing=repr(thing)[:200]):
                kept = copy.deepcopy(thing)
                self.assertIs(is_ranked(FULL, world, wanted, thing), answer)
                self.assertEqual(thing, kept)

    def test_every_order_that_is_right(self):
        self.check(True, self.right, ["eve", "bob", "cyd", "ann", "dan"], ["eve", "bob", "ann", "cyd", "dan"],
                   ["eve", "bob", "ann", "dan", "cyd"])

    def test_orders_that_are_not(self):
        self.check(False, ["eve", "cyd", "ann", "bob", "dan"], ["eve", "bob", "dan", "ann", "cyd"],
                   ["eve", "dan", "ann", "bob", "cyd"])

    def test_the_wanted_one_not_first(self):
        self.check(False, ["cyd", "eve", "bob", "ann", "dan"], ["bob", "ann", "dan", "cyd", "eve"])
        self.check(False, self.right, wanted="cyd")
        self.check(True, ["cyd", "eve", "bob", "ann", "dan"], wanted="cyd")

    def test_a_house_left_out_or_twice(self):
        for at in range(5):
            self.check(False, self.right[:at] + self.right[at + 1:], self.right + [self.right[at]],
                       self.right[:at] + [self.right[at]] + self.right[at:])
            for other in range(5):
                if other != at:
                    self.check(False, self.right[:at] + [self.right[other]] + self.right[at + 1:])
        self.check(False, [], ["eve"], self.right * 2, self.right + ["zoe"])

    def test_a_house_that_is_none(self):
        for thing in ["zoe", "", "Ann", None, True, 0, BIG, ["ann"], ("ann",), {}]:
            for at in range(5):
                self.check(False, self.right[:at] + [thing] + self.right[at + 1:])

    def test_tuples_for_lists(self):
        self.check(False, tuple(self.right), [tuple(self.right)], [self.right], (self.right,), {"eve": self.right})

    def test_other_kinds(self):
        self.check(False, *other_kinds())
        for thing in other_kinds():
            self.check(False, [thing] * 5, ["eve", thing, thing, thing, thing], ["eve", "bob", "ann", "cyd", [thing]])


if __name__ == "__main__":
    unittest.main()
