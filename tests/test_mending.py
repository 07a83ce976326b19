import copy
import itertools
import random
import unittest

from askedways.errors import NoWay, NoWorld
from askedways.mending import mended
from askedways.still import is_still
from askedways.worlds import is_world
from kinds import HOUSES, LINE, TWO, drawn_net, drawn_still_world
from telling import mended_told
from test_asking import ASKED, DOWN, FORGOTTEN, NOT_STILL, TIED, line, tied, up

ROW = (HOUSES, tuple(zip(HOUSES, HOUSES[1:])))


class Mending(unittest.TestCase):
    def check(self, world, house, wanted, goer, net=LINE):
        kept = copy.deepcopy((net, world))
        for again in range(2):
            told = mended(net, world, house, wanted, goer=goer)
            self.assertIs(type(told), tuple)
            self.assertEqual(repr(told), repr(mended_told(net, world, house, wanted, goer)))
        self.assertEqual((net, world), kept)
        self.assertIs(is_world(net, told[0]), True)
        # The world told is settled: no letter is on a way, and it is still.
        self.assertIs(is_still(net, told[0]), True)
        return told

    def refuse(self, error, world, house, wanted, goer, net=LINE):
        kept = copy.deepcopy((net, world))
        with self.assertRaises(error):
            mended(net, world, house, wanted, goer=goer)
        self.assertEqual((net, world), kept)


class Refused(Mending):
    def test_no_world(self):
        for world in NOT_STILL + FORGOTTEN:
            for goer in ("ann", "bob"):
                self.refuse(NoWorld, world, "bob", "cyd", goer)
                self.refuse(NoWorld, world, "ann", "cyd", goer)

    def test_no_world_where_the_house_is_down(self):
        for goer in ("ann", "bob"):
            self.refuse(NoWorld, line(up(), DOWN, up()), "bob", "cyd", goer)

    def test_no_way(self):
        for goer in ("ann", "bob"):
            self.refuse(NoWay, line(up("bob"), up("ann"), up()), "bob", "cyd", goer)
            self.refuse(NoWay, line(up("bob"), up("ann"), up()), "ann", "cyd", goer)
            self.refuse(NoWay, line(up("bob"), up("ann"), DOWN[:3] + ((),)), "ann", "cyd", goer)
        self.refuse(NoWay, (((up(), up())), ((), ())), "a", "b", "a", TWO)

    def test_no_world_goes_ahead_of_no_way(self):
        self.refuse(NoWorld, line(up("bob"), up("ann"), up(), ((("note", "cyd", (1, 0))),), (), (), ()), "bob", "cyd", "ann")

    def test_the_goer_is_handed_in_by_its_name(self):
        with self.assertRaises(TypeError):
            mended(LINE, TIED, "bob", "cyd", "ann")


class Mended(Mending):
    def test_found_by_asking(self):
        told = self.check(TIED, "bob", "cyd", "ann")
        # Ann heard of bob by its ask, and of cyd by its note.
        self.assertEqual(told[0][0][0], up("bob", table=(("bob", 1, 1, "bob"), ("cyd", 1, 2, "bob")), seen=(("bob", 1),)))
        self.assertEqual(told[1:], (None, 2))

    def test_the_way_there_already_is_noted_all_the_same(self):
        world = line(up("bob", own=1, asks=1), *ASKED[0][1:])
        told = self.check(world, "bob", "cyd", "ann")
        self.assertEqual(told, (line(up("bob", own=1, asks=1, table=(("cyd", 1, 2, "bob"),)), *ASKED[0][1:]), None, 2))
        # Noted to those who know it already: nothing is asked, nothing becomes otherwise.
        self.assertEqual(self.check(ASKED, "bob", "cyd", "ann"), (ASKED, 2, 2))
        self.assertEqual(self.check(ASKED, "bob", "cyd", "bob"), (ASKED, 1, 1))

    def test_the_goer_the_mending_house_itself(self):
        self.assertEqual(self.check(TIED, "ann", "cyd", "ann")[1:], (None, 2))
        self.assertEqual(self.check(TIED, "bob", "cyd", "bob")[1:], (None, 1))
        self.assertEqual(self.check(ASKED, "ann", "cyd", "ann")[1:], (2, 2))

    # Cyd's row for eve is broken; ann and bob still go by it.
    ROWS = (("eve", 1, 4, "bob"), ("eve", 1, 3, "cyd"), ("eve", 2, None, None), ("eve", 1, 1, "eve"), None)

    def broken(self):
        states = [up(*state[5], own=1, table=(row,) if row else ()) for state, row in zip(tied(ROW)[0], self.ROWS)]
        return (tuple(states), tied(ROW)[1])

    def test_a_goer_that_goes_by_it(self):
        told = self.check(self.broken(), "cyd", "eve", "bob", ROW)
        self.assertEqual(told[1:], (None, 3))
        told = self.check(self.broken(), "cyd", "eve", "ann", ROW)
        self.assertEqual(told[1:], (None, 4))
        self.assertEqual(told[0][0][0][3], (("cyd", 2, 2, "bob"), ("eve", 1, 4, "bob")))

    def test_a_goer_that_does_not(self):
        told = self.check(self.broken(), "cyd", "eve", "dan", ROW)
        self.assertEqual(told[1:], (1, 1))
        # Ann knows nothing of dan, and hears no note of it; nor does dan's own way to eve change.
        world = line(up("bob"), up("ann", "cyd"), up("bob"))
        self.assertEqual(self.check(world, "cyd", "bob", "ann")[1:], (None, None))

    def test_a_goer_that_is_down(self):
        world = line(DOWN[:3] + ((),), up("cyd"), up("bob"))
        self.assertEqual(self.check(world, "bob", "cyd", "ann")[1:], (None, None))

    def test_in_a_net_of_two(self):
        world = ((up("b"), up("a")), ((), ()))
        self.assertEqual(self.check(world, "a", "b", "a", TWO)[1:], (None, 1))

    def test_over_drawn_still_worlds(self):
        dice = random.Random(26)
        counts = {}
        for again in range(220):
            net = drawn_net(dice)
            world = drawn_still_world(dice, net)
            for house, wanted in itertools.permutations(net[0], 2):
                goer = dice.choice([other for other in net[0] if other != wanted])
                if world[0][net[0].index(house)][0] == "down":
                    self.refuse(NoWorld, world, house, wanted, goer, net)
                elif mended_told(net, world, house, wanted, goer) is None:
                    self.refuse(NoWay, world, house, wanted, goer, net)
                else:
                    told = self.check(world, house, wanted, goer, net)
                    key = (goer == house, told[1] is None, told[2] is None)
                    counts[key] = counts.get(key, 0) + 1
        # Who mends comes there behind it; others do, or don't.
        self.assertEqual({key for key in counts if key[0]}, {(True, True, False), (True, False, False)})
        self.assertLessEqual({(False, True, True), (False, True, False), (False, False, False)}, set(counts))


if __name__ == "__main__":
    unittest.main()
