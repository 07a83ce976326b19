import copy
import itertools
import random
import unittest

from askedways.errors import TooMany
from askedways.runs import end_of, run_of
from askedways.steps import all_worlds, steps_from
from askedways.ways import ring_in
from askedways.worlds import fresh_world, is_world
from kinds import FULL, LINE, SQUARE, TWO, WEIGHTS, drawn_run
from telling import WorldTold, all_worlds_told, steps_told

RULES = ("kept", "wait", "bare")
TIED = (("find", "ann", "bob"), ("find", "bob", "ann"), ("find", "bob", "cyd"), ("find", "cyd", "bob"))
# Two asks of ann's lie for bob, one of cyd's, and one of bob's lies for each of them.
LYING = TIED + (("ask", "ann", "cyd"), ("ask", "ann", "bob"), ("ask", "cyd", "ann"), ("ask", "bob", "cyd"))
TAKES = [("take", "bob", "ann", 0), ("take", "ann", "bob", 0), ("take", "cyd", "bob", 0), ("take", "bob", "cyd", 0)]
# Bob knows cyd, ann goes by bob; bob is down: by "bare" it may come up and learn of ann.
STOPPED = (("find", "bob", "cyd"), ("find", "cyd", "bob"), ("find", "ann", "bob"), ("find", "bob", "ann"),
           ("ask", "bob", "cyd"), ("take", "cyd", "bob", 0), ("take", "bob", "cyd", 0), ("note", "bob", "cyd"),
           ("take", "ann", "bob", 1), ("stop", "bob"))
ANEW = (("up", "bob"), ("find", "bob", "ann"), ("note", "ann", "cyd"))


class StepsFrom(unittest.TestCase):
    def check(self, rule, deeds, left, expected, net=LINE, **given):
        world = end_of(run_of(rule, net, deeds))
        kept = copy.deepcopy((net, world, left))
        for again in range(2):
            told = steps_from(rule, net, world, left, **given)
            self.assertIs(type(told), list)
            self.assertEqual([(deed, rest) for deed, behind, rest in told], expected)
            for deed, behind, rest in told:
                self.assertEqual(repr(behind), repr(WorldTold(rule, net, world).do(deed)))
            self.assertEqual(repr(told), repr(steps_told(rule, net, world, left, given.get("overtake", False))))
            told.append("changed")
            told[0] = None
        self.assertEqual((net, world, left), kept)

    def test_none(self):
        for rule in RULES:
            self.check(rule, (), (), [])
            self.check(rule, TIED, (), [], overtake=True)

    def test_a_doing_that_can_be_done_and_one_that_cannot(self):
        for rule in RULES:
            self.check(rule, (), (("find", "ann", "bob"),), [(("find", "ann", "bob"), ())])
            self.check(rule, TIED, (("find", "ann", "bob"),), [])
            self.check(rule, TIED, (("up", "ann"), ("fail", "ann", "bob"), ("lose", "ann", "bob"), ("note", "ann", "cyd")),
                       [(("lose", "ann", "bob"), (("up", "ann"), ("fail", "ann", "bob"), ("note", "ann", "cyd")))])

    def test_by_the_rule(self):
        up = (("up", "bob"),)
        takes = [(("take", "ann", "bob", 0), up), (("take", "cyd", "bob", 0), up)]
        self.check("kept", STOPPED, up, [(("up", "bob"), ())] + takes)
        self.check("bare", STOPPED, up, [(("up", "bob"), ())] + takes)
        self.check("wait", STOPPED, up, takes)

    def test_left_without_the_doing_in_order(self):
        left = (("stop", "cyd"), ("ask", "ann", "cyd"), ("stop", "ann"), ("lose", "bob", "ann"))
        expected = [(left[0], left[1:]), (left[1], (left[0],) + left[2:]), (left[2], left[:2] + left[3:]), (left[3], left[:3])]
        self.check("kept", TIED, left, expected)
        self.check("kept", TIED, left[::-1], [(doing, rest[::-1]) for doing, rest in expected][::-1])

    def test_the_first_letter_on_each_way_alone(self):
        for rule in RULES:
            self.check(rule, LYING, (), [(deed, ()) for deed in TAKES])
            self.check(rule, LYING, (), [(deed, ()) for deed in TAKES], overtake=False)

    def test_any_of_them_by_overtake(self):
        deeds = [TAKES[0], ("take", "bob", "ann", 1)] + TAKES[1:]
        self.check("kept", LYING, (), [(deed, ()) for deed in deeds], overtake=True)
        deeds = LYING + (("twice", "bob", "ann", 0), ("twice", "cyd", "bob", 0))
        places = TAKES[:1] + [("take", "bob", "ann", 1), ("take", "bob", "ann", 2)] + TAKES[1:3] + [("take", "cyd", "bob", 1)]
        self.check("kept", deeds, (), [(deed, ()) for deed in places + TAKES[3:]], overtake=True)
        self.check("kept", deeds, (), [(deed, ()) for deed in TAKES], overtake=False)

    def test_to_a_house_that_is_down_none(self):
        deeds = TIED + (("stop", "bob"), ("ask", "ann", "cyd"), ("ask", "ann", "cyd"), ("ask", "cyd", "ann"))
        self.check("kept", deeds, (), [])
        self.check("kept", deeds, (), [], overtake=True)
        deeds = LYING + (("stop", "ann"),)
        self.check("kept", deeds, (), [(deed, ()) for deed in TAKES if deed[1] != "ann"])

    def test_doings_then_ways_then_places(self):
        left = (("stop", "cyd"), ("find", "ann", "bob"), ("ask", "ann", "bob"))
        rest = [(left[0], left[1:]), (left[2], left[:2])]
        self.check("kept", LYING, left, rest + [(deed, left) for deed in TAKES])
        self.check("kept", LYING, left, rest + [(deed, left) for deed in [TAKES[0], ("take", "bob", "ann", 1)] + TAKES[1:]], overtake=True)

    def test_of_worlds_of_sixty_deeds(self):
        run = drawn_run(random.Random(5), "kept", SQUARE, 60)
        left = (("ask", "ann", "bob"), ("stop", "eve"), ("up", "eve"))
        told = steps_from("kept", SQUARE, end_of(run), left, overtake=True)
        self.assertEqual(repr(told), repr(steps_told("kept", SQUARE, end_of(run), left, True)))

    def test_over_drawn_runs(self):
        words = set()
        for at in range(60):
            dice = random.Random(at)
            net, rule = (TWO, LINE, SQUARE, FULL)[at % 4], RULES[at % 3]
            world = end_of(drawn_run(dice, rule, net, 30, dict(WEIGHTS, take=6, twice=3)))
            left = drawn_doings(dice, net, 8)
            for overtake in (False, True):
                told = steps_from(rule, net, world, left, overtake=overtake)
                self.assertEqual(repr(told), repr(steps_told(rule, net, world, left, overtake)))
                words.update([deed[0] for deed, behind, rest in told])
        self.assertEqual(words, {"find", "lose", "ask", "fail", "note", "take", "stop", "up"})


def drawn_doings(dice, net, size):
    """So many unlike doings of the net, in whatever order (fewer in a small one)."""
    doings = [(word, house) for word in ("stop", "up") for house in net[0]]
    doings += [(word, one, other) for word in ("ask", "fail", "note") for one, other in itertools.permutations(net[0], 2)]
    doings += [(word,) + way for word in ("find", "lose") for pair in net[1] for way in (pair, pair[::-1])]
    return tuple(dice.sample(doings, min(size, len(doings))))


class AllWorlds(unittest.TestCase):
    def check(self, run, doings, count=None, **given):
        kept = copy.deepcopy((run, doings))
        expected = all_worlds_told(run, doings, given.get("overtake", False), 300)
        for again in range(2):
            told = all_worlds(run, doings, **given)
            self.assertIs(type(told), list)
            # Each once, however many ways lead to it.
            self.assertEqual(len(told), len(set(told)))
            self.assertEqual(set(told), expected)
            self.assertEqual({repr(part) for part in told}, {repr(part) for part in expected})
            if count is not None:
                self.assertEqual(len(told), count)
            told.clear()
        self.assertEqual((run, doings), kept)
        return all_worlds(run, doings, **given)

    def refuse(self, most, run, doings, **given):
        with self.assertRaises(TooMany) as caught:
            all_worlds(run, doings, **given)
        self.assertEqual(repr(caught.exception.most), repr(most))

    def test_of_no_doings(self):
        for rule in RULES:
            self.assertEqual(all_worlds((rule, LINE, ()), ()), [(fresh_world(LINE), ())])
            self.assertEqual(self.check((rule, LINE, TIED), (), 1), [(end_of((rule, LINE, TIED)), ())])

    def test_of_no_doings_with_letters_on_their_way(self):
        self.check(run_of("kept", LINE, TIED + (("ask", "ann", "bob"),)), (), 3)
        self.check(run_of("kept", LINE, LYING), ())

    def test_of_doings_none_of_which_can_be_done(self):
        run = run_of("kept", LINE, TIED)
        doings = (("up", "ann"), ("fail", "ann", "bob"))
        self.assertEqual(self.check(run, doings, 1), [(end_of(run), doings)])

    def test_each_once(self):
        # Three doings that don't touch one another: each choice of them, in whatever order.
        run = run_of("kept", LINE, ())
        self.check(run, (("find", "ann", "bob"), ("find", "cyd", "bob"), ("stop", "bob")), 8)
        # The same world with other doings left is another one.
        told = self.check(run_of("kept", LINE, TIED), (("lose", "ann", "bob"), ("find", "ann", "bob")), 3)
        worlds = [world for world, left in told]
        self.assertEqual((worlds.count(worlds[0]), {left for world, left in told}),
                         (2, {(), (("find", "ann", "bob"),), (("lose", "ann", "bob"), ("find", "ann", "bob"))}))

    def test_of_some(self):
        run = run_of("kept", LINE, TIED)
        for doings in ((("ask", "ann", "cyd"),), (("ask", "ann", "cyd"), ("lose", "bob", "cyd")),
                       (("stop", "cyd"), ("ask", "ann", "cyd"), ("up", "cyd"))):
            told = self.check(run, doings)
            self.assertIn((end_of(run), doings), told)
            for world, left in told:
                self.assertIs(is_world(LINE, world), True)

    def test_overtake_or_not(self):
        run = run_of("kept", LINE, TIED)
        doings = (("ask", "ann", "cyd"), ("ask", "ann", "bob"))
        first = self.check(run, doings)
        self.assertEqual(first, self.check(run, doings, overtake=False))
        wide = self.check(run, doings, overtake=True)
        self.assertLess(set(first), set(wide))

    def test_behind_a_world_with_a_ring_too(self):
        run = run_of("bare", LINE, STOPPED + ANEW)
        told = self.check(run, (("stop", "cyd"),))
        rings = [ring_in(LINE, world) is not None for world, left in told]
        self.assertIn(True, rings)
        self.assertIn(False, rings)
        # The ring is there already: all that comes of it is told all the same.
        run = run_of("bare", LINE, STOPPED + ANEW + (("take", "bob", "ann", 0),))
        self.assertIsNotNone(ring_in(LINE, end_of(run)))
        told = self.check(run, (("stop", "cyd"), ("lose", "ann", "bob")))
        self.assertGreater(len(told), 4)

    def test_a_run_of_sixty_deeds(self):
        run = run_of("kept", LINE, TIED + (("stop", "bob"), ("up", "bob")) * 28)
        self.assertEqual(len(run[2]), 60)
        self.check(run, (("find", "bob", "ann"), ("ask", "ann", "bob")))
        told = self.check(run, (("find", "bob", "ann"), ("ask", "ann", "cyd"), ("stop", "cyd"), ("up", "cyd")))
        self.assertGreater(len(told), 20)

    def test_eight_doings(self):
        run = run_of("kept", LINE, ())
        doings = (("find", "ann", "bob"), ("find", "bob", "ann"), ("find", "bob", "cyd"), ("find", "cyd", "bob"),
                  ("stop", "ann"), ("up", "ann"), ("stop", "bob"), ("lose", "cyd", "bob"))
        self.check(run, doings)

    def test_too_many(self):
        run = run_of("kept", LINE, TIED)
        doings = (("ask", "ann", "cyd"), ("lose", "bob", "cyd"))
        for overtake in (False, True):
            many = len(all_worlds(run, doings, overtake=overtake))
            self.check(run, doings, many, overtake=overtake, limit=many)
            self.check(run, doings, many, overtake=overtake, limit=300)
            for limit in (many - 1, many - 2, 2, 1):
                self.refuse(limit, run, doings, overtake=overtake, limit=limit)

    def test_too_many_where_they_go_on_behind_the_limit(self):
        run = run_of("kept", FULL, ())
        doings = tuple([("find", one, other) for one, other in FULL[1]][:8])
        self.check(run, doings, 256)
        self.check(run, doings, 256, limit=256)
        self.refuse(255, run, doings, limit=255)
        doings = tuple([("find", one, other) for one, other in FULL[1]][:7]) + (("ask", "ann", "bob"),)
        self.refuse(300, run, doings)
        self.refuse(300, run, doings, limit=300)
        self.refuse(299, run, doings, limit=299, overtake=True)

    def test_just_one(self):
        run = run_of("kept", LINE, TIED)
        self.check(run, (), 1, limit=1)
        self.check(run, (("stop", "ann"),), 2, limit=2)
        self.refuse(1, run, (("stop", "ann"),), limit=1)

    def test_just_as_many_as_by_default_and_one_more(self):
        run = run_of("kept", LINE, TIED)
        doings = (("ask", "cyd", "bob"), ("ask", "ann", "cyd"), ("note", "bob", "ann"), ("lose", "ann", "bob"), ("find", "bob", "cyd"))
        self.check(run, doings, 300)
        self.refuse(299, run, doings, limit=299)
        doings = (("ask", "cyd", "ann"), ("ask", "ann", "bob"), ("fail", "bob", "cyd"), ("note", "ann", "cyd"))
        self.assertEqual(len(all_worlds_told(run, doings, False, 400)), 301)
        self.refuse(300, run, doings)
        self.refuse(300, run, doings, limit=300)

    def test_handed_in_by_their_names(self):
        run = run_of("kept", LINE, TIED)
        with self.assertRaises(TypeError):
            all_worlds(run, (), True)
        with self.assertRaises(TypeError):
            steps_from("kept", LINE, end_of(run), (), True)

    def test_over_drawn_runs(self):
        counts = []
        for at in range(90):
            dice = random.Random(at)
            net, rule, overtake = (TWO, LINE, LINE, SQUARE, FULL)[at % 5], RULES[at % 3], at % 2 == 1
            run = drawn_run(dice, rule, net, dice.randint(0, 30), dict(WEIGHTS, take=60))
            doings = drawn_doings(dice, net, dice.randint(1, 5))
            if all_worlds_told(run, doings, overtake, 300) is None:
                self.refuse(300, run, doings, overtake=overtake)
                counts.append(None)
            else:
                counts.append(len(self.check(run, doings, overtake=overtake)))
        self.assertGreater(len(set(counts)), 20)
        self.assertGreater(counts.count(None), 5)


if __name__ == "__main__":
    unittest.main()
