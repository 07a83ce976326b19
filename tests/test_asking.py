import copy
import random
import unittest

from askedways.asking import asks_once, asks_till, shows_lack
from askedways.errors import NoWorld
from askedways.labels import row_in
from askedways.still import has_kept, is_still
from askedways.worlds import fresh_world, is_world, state_of
from kinds import FULL, HOUSES, LINE, TWO, changed_at, drawn_net, drawn_still_world, drawn_world, odd, other_kinds
from telling import come_to_told, has_kept_told, is_still_told, once_told, till_told

NO_LETTERS = ((), (), (), ())


def up(*ties, own=0, asks=0, table=(), seen=()):
    return ("up", own, asks, table, seen, ties)


def line(ann, bob, cyd, *flights):
    """A world of LINE, whose ways are ann bob, bob ann, bob cyd, cyd bob."""
    return ((ann, bob, cyd), flights or NO_LETTERS)


def tied(net):
    """A world of the net in which all that may be are tied, and nothing is known."""
    ties = {house: [] for house in net[0]}
    for one, other in net[1]:
        ties[one].append(other)
        ties[other].append(one)
    return (tuple(up(*sorted(ties[house])) for house in net[0]), tuple(() for pair in net[1] for way in (0, 1)))


TIED = tied(LINE)
SEEN = (("ann", 1),)
ASKED = line(up("bob", own=1, asks=1, table=(("cyd", 1, 2, "bob"),), seen=SEEN),
             up("ann", "cyd", table=(("ann", 1, 1, "ann"), ("cyd", 1, 1, "cyd")), seen=SEEN),
             up("bob", own=1, table=(("ann", 1, 2, "bob"),), seen=SEEN))
DOWN = ("down", 3, 1, (("cyd", 4),))
# Worlds of LINE in which nothing may be asked, whoever asks: each is not still in another way.
NOT_STILL = (
    line(up("bob"), up("ann", "cyd"), up("bob"), (), (), (("broken", (("ann", 2),)),), ()),
    line(up("bob"), up("ann"), up("bob")),
    line(up("bob"), up("ann", "cyd"), DOWN[:3] + ((),)),
    line(up("bob", table=(("cyd", 1, 2, "bob"),)), up("ann", "cyd"), up("bob", own=1)),
)
# Still, but cyd has forgotten its number, or ann its asks.
FORGOTTEN = (
    line(up("bob", table=(("cyd", 3, 2, "bob"),)), up("ann", "cyd", table=(("cyd", 3, 1, "cyd"),)), up("bob", own=2)),
    line(up("bob"), up("ann", "cyd"), up("bob", seen=(("ann", 1),))),
    line(up("bob"), up("ann", "cyd"), up("bob", table=(("ann", 2, None, None),))),
)


class Refused(unittest.TestCase):
    def refuse(self, asked, world, house, wanted, net=LINE):
        kept = copy.deepcopy((net, world))
        self.assertIs(is_world(net, world), True)
        with self.assertRaises(NoWorld):
            asked(net, world, house, wanted)
        self.assertEqual((net, world), kept)

    def test_where_the_world_is_not_still(self):
        for world in NOT_STILL:
            for asked in (asks_once, asks_till):
                self.refuse(asked, world, "ann", "bob")
                self.refuse(asked, world, "bob", "cyd")
                self.refuse(asked, world, "ann", "cyd")

    def test_where_the_house_is_down(self):
        world = line(up(), DOWN, up())
        for asked in (asks_once, asks_till):
            self.refuse(asked, world, "bob", "ann")
            self.refuse(asked, world, "bob", "cyd")
        self.assertEqual(asks_once(LINE, world, "ann", "bob")[1:], (0, 0))

    def test_till_where_numbers_were_forgotten(self):
        for world in FORGOTTEN:
            for house, wanted in (("ann", "cyd"), ("cyd", "ann"), ("bob", "ann"), ("ann", "bob")):
                self.assertIs(is_still(LINE, world), True)
                self.refuse(asks_till, world, house, wanted)

    def test_once_where_numbers_were_forgotten_is_not(self):
        for world in FORGOTTEN:
            self.assertEqual(repr(asks_once(LINE, world, "ann", "cyd")), repr(once_told(LINE, world, "ann", "cyd")))

    def test_till_also_where_the_way_is_there(self):
        self.refuse(asks_till, FORGOTTEN[0], "bob", "cyd")
        self.refuse(asks_till, (ASKED[0], NOT_STILL[0][1]), "ann", "cyd")


class AsksOnce(unittest.TestCase):
    def check(self, world, house, wanted, net=LINE):
        kept = copy.deepcopy((net, world))
        for again in range(2):
            told = asks_once(net, world, house, wanted)
            self.assertEqual(repr(told), repr(once_told(net, world, house, wanted)))
        self.assertEqual((net, world), kept)
        behind, turns, letters = told
        self.assertIs(is_world(net, behind), True)
        self.assertEqual([on for on in behind[1] if on], [])
        if has_kept(net, world):
            ties = sum([len(state[5]) for state in world[0] if state[0] == "up"])
            self.assertLessEqual(turns, 2 * len(net[0]))
            self.assertLessEqual(letters, ties + 2 * len(net[0]) ** 2)
            row = row_in(state_of(net, behind, house), wanted)
            if wanted in come_to_told(net, world, house):
                self.assertIsNotNone(row)
                self.assertIsNotNone(row[2])
        return told

    def test_a_way_by_ties(self):
        self.assertEqual(self.check(TIED, "ann", "cyd"), (ASKED, 4, 4))
        self.assertEqual(self.check(TIED, "ann", "bob")[1:], (2, 2))

    def test_asked_anew(self):
        # Bob answers by its row.
        told = self.check(ASKED, "ann", "cyd")
        self.assertEqual(told[1:], (2, 2))
        self.assertEqual(told[0][0][0], up("bob", own=2, asks=2, table=(("cyd", 1, 2, "bob"),), seen=(("ann", 1), ("ann", 2))))

    def test_no_way_by_ties(self):
        world = line(up("bob"), up("ann"), up())
        behind = line(up("bob", own=1, asks=1, seen=SEEN), up("ann", table=(("ann", 1, 1, "ann"),), seen=SEEN), up())
        self.assertEqual(self.check(world, "ann", "cyd"), (behind, 1, 1))

    def test_no_ties_at_all(self):
        self.assertEqual(self.check(line(up(), up(), up()), "ann", "cyd"), (line(up(own=1, asks=1, seen=SEEN), up(), up()), 0, 0))

    def test_of_a_house_that_is_down(self):
        world = line(up("bob"), up("ann"), DOWN[:3] + ((),))
        self.assertEqual(self.check(world, "ann", "cyd")[1:], (1, 1))

    def test_in_nets_of_two_to_five_houses(self):
        for size in range(2, 6):
            houses = HOUSES[:size]
            for pairs in (tuple(zip(houses, houses[1:])), tuple([pair for pair in FULL[1] if pair[1] in houses])):
                net = (houses, pairs)
                for house in houses:
                    for wanted in houses:
                        if house != wanted:
                            self.check(tied(net), house, wanted, net)

    def test_turns_and_letters_along_a_row_of_houses(self):
        net = (HOUSES, tuple(zip(HOUSES, HOUSES[1:])))
        self.assertEqual(self.check(tied(net), "ann", "eve", net)[1:], (8, 8))
        self.assertEqual(self.check(tied(net), "cyd", "eve", net)[1:], (4, 6))

    def test_over_drawn_still_worlds(self):
        dice = random.Random(24)
        for again in range(250):
            net = drawn_net(dice)
            world = drawn_still_world(dice, net, dice.choice((0, 0, 2)))
            self.assertIs(is_still_told(net, world), True)
            for house, state in zip(net[0], world[0]):
                for wanted in net[0]:
                    if house != wanted and state[0] == "up":
                        self.check(world, house, wanted, net)


class AsksTill(unittest.TestCase):
    def check(self, world, house, wanted, net=LINE):
        kept = copy.deepcopy((net, world))
        for again in range(2):
            told = asks_till(net, world, house, wanted)
            self.assertEqual(repr(told), repr(till_told(net, world, house, wanted)))
            word, behind, asks, houses = told
            self.assertEqual(word, "found" if wanted in come_to_told(net, world, house) else "lack")
            self.assertLess(asks, len(net[0]))
            self.assertIs(is_world(net, behind), True)
            if word == "found":
                # The list is the asker's own.
                houses[0] = "changed"
            else:
                self.assertIs(shows_lack(net, world, house, wanted, houses), True)
                self.assertIs(shows_lack(net, behind, house, wanted, houses), True)
        self.assertEqual((net, world), kept)
        return asks_till(net, world, house, wanted)

    def test_there_at_once(self):
        self.assertEqual(self.check(ASKED, "ann", "cyd"), ("found", ASKED, 0, ["ann", "bob", "cyd"]))
        self.assertEqual(self.check(ASKED, "bob", "cyd"), ("found", ASKED, 0, ["bob", "cyd"]))

    def test_found_by_one_asking(self):
        self.assertEqual(self.check(TIED, "ann", "cyd"), ("found", ASKED, 1, ["ann", "bob", "cyd"]))
        world = line(up("bob", own=1, asks=1), *ASKED[0][1:])
        self.assertEqual(self.check(world, "ann", "cyd")[2:], (1, ["ann", "bob", "cyd"]))

    def test_fails_first_by_a_row_that_leads_nowhere(self):
        # Bob's row is broken by a number that ann hasn't heard of.
        world = line(ASKED[0][0], up("ann", "cyd", table=(("ann", 1, 1, "ann"), ("cyd", 2, None, None)), seen=SEEN), ASKED[0][2])
        told = self.check(world, "ann", "cyd")
        self.assertEqual((told[0],) + told[2:], ("found", 1, ["ann", "bob", "cyd"]))
        # By failing ann's number became 2, which is told with its ask; cyd's own then is 2.
        self.assertEqual(told[1][0][0][3], (("cyd", 2, 2, "bob"),))
        self.assertEqual(told[1][0][0][1:3], (2, 2))

    def test_fails_first_where_the_way_is_gone(self):
        world = line(ASKED[0][0], up("ann", table=(("ann", 1, 1, "ann"), ("cyd", 2, None, None)), seen=SEEN), up(own=1))
        told = self.check(world, "ann", "cyd")
        self.assertEqual((told[0],) + told[2:], ("lack", 1, ("ann", "bob")))
        self.assertEqual(told[1][0][0][3], (("cyd", 2, None, None),))

    def test_cannot_be_come_to(self):
        self.assertEqual(self.check(line(up("bob"), up("ann"), up()), "ann", "cyd")[2:], (1, ("ann", "bob")))
        self.assertEqual(self.check(line(up("bob"), up("ann"), up()), "bob", "cyd")[2:], (1, ("ann", "bob")))
        self.assertEqual(self.check(line(up("bob"), up("ann"), up()), "cyd", "ann")[2:], (1, ("cyd",)))
        self.assertEqual(self.check(fresh_world(TWO), "a", "b", TWO)[2:], (1, ("a",)))
        self.assertEqual(self.check(line(up("bob"), up("ann"), DOWN[:3] + ((),)), "ann", "cyd")[2:], (1, ("ann", "bob")))

    def test_by_several_askings(self):
        counts = {}
        for seed in range(400):
            dice = random.Random(seed)
            net = drawn_net(dice)
            world = drawn_still_world(dice, net)
            self.assertIs(has_kept_told(net, world), True)
            for house, state in zip(net[0], world[0]):
                for wanted in net[0]:
                    if house != wanted and state[0] == "up":
                        word, behind, asks, houses = self.check(world, house, wanted, net)
                        counts[word, asks] = counts.get((word, asks), 0) + 1
        self.assertLessEqual({("found", 0), ("found", 1), ("found", 2), ("lack", 1), ("lack", 2)}, set(counts))


class ShowsLack(unittest.TestCase):
    # Ann and bob are tied, cyd and dan are; eve is down, and dan hears it still.
    WORLD = ((up("bob"), up("ann"), up("dan"), up("cyd", "eve"), ("down", 1, 1, ())), tuple([() for pair in FULL[1] for way in (0, 1)]))

    def check(self, answer, house, wanted, *things, net=FULL, world=None):
        for thing in things:
            kept = copy.deepcopy(thing)
            self.assertIs(shows_lack(net, world or self.WORLD, house, wanted, thing), answer, thing)
            self.assertEqual(repr(thing), repr(kept))

    def test_of_the_set(self):
        for wanted in ("cyd", "dan", "eve"):
            self.check(True, "ann", wanted, ("ann", "bob"))
            self.check(True, "bob", wanted, ("ann", "bob"))
        self.check(True, "cyd", "ann", ("cyd", "dan", "eve"))

    def test_with_a_house_more(self):
        # Not as small as can be, but it shows it all the same: eve, being down, has no ties.
        self.check(True, "ann", "cyd", ("ann", "bob", "eve"))
        self.check(True, "ann", "eve", ("ann", "bob", "cyd", "dan")[:2])
        self.check(False, "ann", "cyd", ("ann", "bob", "dan"), ("ann", "bob", "cyd"), ("ann", "bob", "zoe"), ("al", "ann", "bob"))

    def test_with_a_house_fewer(self):
        self.check(False, "ann", "cyd", ("ann",), ("bob",), ())
        self.check(False, "cyd", "ann", ("cyd", "dan"), ("cyd",), ("cyd", "eve"))

    def test_a_tie_that_leads_out_of_it(self):
        self.check(False, "dan", "ann", ("cyd", "dan"), ("dan", "eve"), ("dan",))
        self.check(True, "dan", "ann", ("cyd", "dan", "eve"))

    def test_without_the_house(self):
        self.check(False, "ann", "bob", ("cyd", "dan", "eve"), ("eve",), ())
        self.check(False, "cyd", "dan", ("ann", "bob"))

    def test_with_the_wanted_one(self):
        self.check(False, "ann", "bob", ("ann", "bob"))
        self.check(False, "ann", "eve", HOUSES, ("ann", "bob", "eve"))

    def test_a_house_that_is_down(self):
        self.check(True, "eve", "ann", ("eve",), ("cyd", "dan", "eve"))
        self.check(True, "eve", "cyd", ("ann", "bob", "eve"))
        self.check(False, "eve", "cyd", ("ann", "eve"))

    def test_ties_heard_from_one_side(self):
        world = line(up("bob"), up(), up("bob"))
        self.check(True, "bob", "ann", ("bob",), net=LINE, world=world)
        self.check(True, "cyd", "ann", ("bob", "cyd"), net=LINE, world=world)
        self.check(False, "cyd", "ann", ("cyd",), net=LINE, world=world)

    def test_twice_not_rising_and_lists(self):
        self.check(False, "ann", "cyd", ("ann", "ann", "bob"), ("ann", "bob", "bob"), ("bob", "ann"), ["ann", "bob"], [],
                   (("ann", "bob"),), [("ann", "bob")], {"ann": "bob"}, "ann", "annbob", ("ann", "bob", "eve", "eve"))

    def test_other_kinds(self):
        for house, wanted in (("ann", "cyd"), ("eve", "ann"), ("dan", "ann")):
            # Of one house that is down the set of itself is one.
            self.check(False, house, wanted, *[thing for thing in other_kinds() if thing != ("eve",)])
        for thing in changed_at(("ann", "bob"), odd):
            self.check(False, "ann", "cyd", thing)

    def test_over_drawn_worlds(self):
        dice = random.Random(25)
        answers = []
        for again in range(400):
            net = drawn_net(dice)
            world = dice.choice((drawn_world, drawn_still_world))(dice, net)
            house, wanted = dice.sample(net[0], 2)
            thing = tuple([one for one in net[0] if dice.random() < 0.6])
            out = [tie for one in thing for tie in come_to_told(net, world, one) if tie not in thing]
            answers.append(house in thing and wanted not in thing and not out)
            self.assertIs(shows_lack(net, world, house, wanted, thing), answers[-1])
            there = come_to_told(net, world, house)
            self.assertIs(shows_lack(net, world, house, wanted, there), wanted not in there)
        self.assertGreater(answers.count(True), 20)


if __name__ == "__main__":
    unittest.main()
