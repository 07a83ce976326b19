import copy
import itertools
import random
import unittest

from askedways.labels import is_nearer
from askedways.runs import worlds_of
from askedways.sound import faults_in
from askedways.ways import fall_of, is_ring, ring_in, way_to
from askedways.worlds import fresh_world, is_world, state_of
from kinds import (BIG, FULL, HOUSES, LINE, SQUARE, TWO, changed_at, drawn_run, drawn_world, listed, odd, one_off,
                   other_kinds, world_with)


def to(wanted, **nexts):
    """Rows for the wanted house by these nexts, all with unlike labels."""
    return {house: [(wanted, at + 1, at + 2, onward)] for at, (house, onward) in enumerate(nexts.items())}


def joined(*tables):
    """The rows of several wanted houses together."""
    return {house: [row for table in tables for row in table.get(house, [])] for house in HOUSES}


class WayTo(unittest.TestCase):
    def check(self, world, house, wanted, word, *houses, net=FULL):
        self.assertIs(is_world(net, world), True)
        kept = copy.deepcopy(world)
        for again in range(2):
            told = way_to(net, world, house, wanted)
            self.assertEqual(repr(told), repr((word, list(houses))))
            told[1].append("changed")
            told[1][0] = None
        self.assertEqual(world, kept)

    def test_of_one_step(self):
        self.check(world_with(FULL, to("eve", ann="eve")), "ann", "eve", "there", "ann", "eve")
        self.check(world_with(TWO, {"a": [("b", 1, 1, "b")]}), "a", "b", "there", "a", "b", net=TWO)

    def test_of_several(self):
        world = world_with(FULL, to("eve", ann="cyd", cyd="bob", bob="dan", dan="eve"))
        self.check(world, "ann", "eve", "there", "ann", "cyd", "bob", "dan", "eve")
        self.check(world, "cyd", "eve", "there", "cyd", "bob", "dan", "eve")
        self.check(world, "dan", "eve", "there", "dan", "eve")

    def test_there_where_the_wanted_house_is_down(self):
        world = world_with(FULL, to("eve", ann="bob", bob="eve"), {"eve": [("ann", BIG)]})
        self.check(world, "ann", "eve", "there", "ann", "bob", "eve")
        self.check(world, "bob", "eve", "there", "bob", "eve")

    def test_lost_at_the_first_house(self):
        self.check(fresh_world(FULL), "ann", "eve", "lost", "ann")
        self.check(world_with(FULL, {"ann": [("eve", 2, None, None)]}), "ann", "eve", "lost", "ann")
        self.check(world_with(FULL, {}, {"ann": [("eve", 2)]}), "ann", "eve", "lost", "ann")

    def test_lost_later_on(self):
        table = to("eve", ann="bob", bob="cyd")
        self.check(world_with(FULL, table), "ann", "eve", "lost", "ann", "bob", "cyd")
        broken = joined(table, {"cyd": [("eve", 9, None, None)]})
        self.check(world_with(FULL, broken), "ann", "eve", "lost", "ann", "bob", "cyd")
        self.check(world_with(FULL, table, {"cyd": [("eve", 9)]}), "ann", "eve", "lost", "ann", "bob", "cyd")
        self.check(world_with(FULL, table, {"bob": []}), "ann", "eve", "lost", "ann", "bob")

    def test_rows_of_other_houses_do_not_count(self):
        world = world_with(FULL, joined(to("dan", ann="bob", bob="cyd", cyd="dan"), to("eve", ann="dan")))
        self.check(world, "ann", "dan", "there", "ann", "bob", "cyd", "dan")
        self.check(world, "ann", "eve", "lost", "ann", "dan")
        self.check(world, "bob", "eve", "lost", "bob")

    def test_round_back_to_the_first_house(self):
        self.check(world_with(FULL, to("eve", ann="bob", bob="ann")), "ann", "eve", "round", "ann", "bob", "ann")
        world = world_with(FULL, to("eve", ann="bob", bob="dan", dan="cyd", cyd="ann"))
        self.check(world, "ann", "eve", "round", "ann", "bob", "dan", "cyd", "ann")
        self.check(world, "dan", "eve", "round", "dan", "cyd", "ann", "bob", "dan")

    def test_round_to_one_in_the_middle(self):
        world = world_with(FULL, to("eve", ann="bob", bob="dan", dan="cyd", cyd="bob"))
        self.check(world, "ann", "eve", "round", "ann", "bob", "dan", "cyd", "bob")
        world = world_with(FULL, to("eve", ann="bob", bob="dan", dan="cyd", cyd="dan"))
        self.check(world, "ann", "eve", "round", "ann", "bob", "dan", "cyd", "dan")
        self.check(world, "cyd", "eve", "round", "cyd", "dan", "cyd")

    def test_each_step_as_it_is_told(self):
        dice = random.Random(17)
        words = set()
        for turn in range(400):
            net = dice.choice((TWO, LINE, SQUARE, FULL))
            world = drawn_world(dice, net)
            for house, wanted in itertools.permutations(net[0], 2):
                word, houses = way_to(net, world, house, wanted)
                words.add(word)
                self.assertEqual(houses[0], house)
                for one, other in zip(houses, houses[1:]):
                    rows = [row for row in state_of(net, world, one)[3] if row[0] == wanted and len(row) == 4]
                    self.assertEqual([row[3] for row in rows], [other])
                    self.assertEqual(state_of(net, world, one)[0], "up")
                self.assertEqual(word == "there", houses[-1] == wanted)
                self.assertEqual(len(set(houses[:-1])), len(houses) - 1)
                self.assertEqual(word == "round", houses[-1] in houses[:-1])
                if word == "lost":
                    state = state_of(net, world, houses[-1])
                    self.assertEqual([row for row in state[3] if row[0] == wanted and len(row) == 4 and row[3]], [])
        self.assertEqual(words, {"there", "lost", "round"})


class FallOf(unittest.TestCase):
    def check(self, world, house, wanted, *labels):
        kept = copy.deepcopy(world)
        for again in range(2):
            told = fall_of(FULL, world, house, wanted)
            self.assertEqual(repr(told), repr(list(labels)))
            told.append("changed")
        self.assertEqual(world, kept)

    def test_there(self):
        self.check(world_with(FULL, {"ann": [("eve", BIG, 7, "eve")]}), "ann", "eve", (BIG, 7))
        world = world_with(FULL, {"ann": [("eve", 3, 9, "bob"), ("bob", 8, 8, "bob")], "bob": [("eve", 4, 1, "eve")]})
        self.check(world, "ann", "eve", (3, 9), (4, 1))

    def test_lost(self):
        self.check(fresh_world(FULL), "ann", "eve")
        self.check(world_with(FULL, {"ann": [("eve", 2, None, None)]}), "ann", "eve")
        world = world_with(FULL, {"ann": [("eve", 3, 9, "bob")], "bob": [("eve", 4, None, None)]})
        self.check(world, "ann", "eve", (3, 9))
        self.check(world_with(FULL, {"ann": [("eve", 3, 9, "bob")]}, {"bob": [("eve", 4)]}), "ann", "eve", (3, 9))

    def test_round_each_house_once(self):
        world = world_with(FULL, {"ann": [("eve", 3, 9, "bob")], "bob": [("eve", 4, 1, "cyd")], "cyd": [("eve", 5, 2, "ann")]})
        self.check(world, "ann", "eve", (3, 9), (4, 1), (5, 2))
        self.check(world, "cyd", "eve", (5, 2), (3, 9), (4, 1))
        world = world_with(FULL, {"ann": [("eve", 3, 9, "bob")], "bob": [("eve", 4, 1, "cyd")], "cyd": [("eve", 5, 2, "bob")]})
        self.check(world, "ann", "eve", (3, 9), (4, 1), (5, 2))

    def test_in_a_world_without_faults_of_rows_each_next_one_is_nearer(self):
        longest = 0
        for at in range(12):
            net = (SQUARE, FULL)[at % 2]
            for world in worlds_of(drawn_run(random.Random(at), "kept", net, 60)):
                self.assertEqual([fault for fault in faults_in(net, world) if fault[0] == "row"], [])
                for house, wanted in itertools.permutations(net[0], 2):
                    fall = fall_of(net, world, house, wanted)
                    longest = max(longest, len(fall))
                    for label, onward in zip(fall, fall[1:]):
                        self.assertIs(is_nearer(onward, label), True)
        self.assertGreaterEqual(longest, 3)


def all_rings(net, world):
    """All rings of a world by the words of point 18, begun at each of their houses."""
    rings = []
    for wanted in net[0]:
        nexts = {}
        for house, state in zip(net[0], world[0]):
            if state[0] == "up" and house != wanted:
                nexts.update({house: row[3] for row in state[3] if row[0] == wanted and row[2] is not None})
        for size in range(2, len(net[0])):
            for houses in itertools.permutations(nexts, size):
                if all(nexts[one] == other for one, other in zip(houses, houses[1:] + houses[:1])):
                    rings.append((wanted, list(houses)))
    return rings


class Rings(unittest.TestCase):
    def check(self, world, ring, net=FULL):
        kept = copy.deepcopy(world)
        for again in range(2):
            told = ring_in(net, world)
            self.assertEqual(repr(told), repr(ring))
            if told is not None:
                self.assertIs(is_ring(net, world, told), True)
                told[1].clear()
        self.assertEqual(world, kept)

    def test_none(self):
        self.check(fresh_world(FULL), None)
        self.check(world_with(FULL, to("eve", ann="bob", bob="cyd", cyd="dan", dan="eve")), None)
        self.check(world_with(FULL, to("eve", ann="bob", bob="cyd", cyd="dan")), None)

    def test_one_from_its_first_house_on(self):
        self.check(world_with(FULL, to("eve", dan="bob", bob="dan")), ("eve", ["bob", "dan"]))
        self.check(world_with(FULL, to("ann", dan="bob", bob="eve", eve="dan")), ("ann", ["bob", "eve", "dan"]))
        self.check(world_with(FULL, to("cyd", dan="bob", bob="eve", eve="ann", ann="dan")),
                   ("cyd", ["ann", "dan", "bob", "eve"]))

    def test_not_those_who_only_lead_into_it(self):
        self.check(world_with(FULL, to("eve", ann="cyd", bob="cyd", cyd="dan", dan="cyd")), ("eve", ["cyd", "dan"]))

    def test_two_for_one_wanted_house(self):
        self.check(world_with(FULL, to("eve", ann="dan", dan="ann", bob="cyd", cyd="bob")), ("eve", ["ann", "dan"]))
        self.check(world_with(FULL, to("ann", bob="eve", eve="bob", cyd="dan", dan="cyd")), ("ann", ["bob", "eve"]))

    def test_for_several_wanted_houses(self):
        world = world_with(FULL, joined(to("eve", ann="bob", bob="ann"), to("bob", cyd="dan", dan="cyd")))
        self.check(world, ("bob", ["cyd", "dan"]))
        world = world_with(FULL, joined(to("eve", ann="bob", bob="ann"), to("dan", ann="cyd", cyd="ann")))
        self.check(world, ("dan", ["ann", "cyd"]))

    def test_nexts_of_unlike_wanted_houses_make_none(self):
        self.check(world_with(FULL, joined(to("eve", ann="bob"), to("dan", bob="ann"))), None)

    def test_no_house_that_is_down_in_it(self):
        table = to("eve", ann="bob", bob="cyd", cyd="ann")
        for house in ("ann", "bob", "cyd"):
            world = world_with(FULL, table, {house: [("eve", 9)]})
            self.check(world, None)
            self.assertIs(is_ring(FULL, world, ("eve", ["ann", "bob", "cyd"])), False)

    def test_not_the_wanted_house_in_it(self):
        world = world_with(FULL, joined(to("eve", ann="bob", bob="eve"), to("ann", eve="ann")))
        self.check(world, None)
        self.assertIs(is_ring(FULL, world, ("eve", ["ann", "bob", "eve"])), False)
        self.assertIs(is_ring(FULL, world, ("eve", ["eve", "ann", "bob"])), False)

    def test_also_where_the_wanted_house_is_down(self):
        self.check(world_with(FULL, to("eve", ann="bob", bob="ann"), {"eve": []}), ("eve", ["ann", "bob"]))

    def test_by_the_words_of_point_18_over_drawn_worlds(self):
        dice = random.Random(18)
        found = 0
        for turn in range(200):
            net = dice.choice((LINE, SQUARE, FULL))
            world = drawn_world(dice, net)
            rings = all_rings(net, world)
            found += bool(rings)
            order = [(wanted, net[0].index(houses[0]), houses) for wanted, houses in rings]
            first = min(order, default=None, key=lambda ring: ring[:2])
            self.check(world, None if first is None else (first[0], first[2]), net)
            for wanted in net[0]:
                for size in range(len(net[0]) + 1):
                    for houses in itertools.permutations(net[0], size):
                        thing = (wanted, list(houses))
                        self.assertIs(is_ring(net, world, thing), thing in rings)
            # So there is one where a way is "round".
            words = [way_to(net, world, house, wanted)[0] for house, wanted in itertools.permutations(net[0], 2)]
            self.assertEqual("round" in words, bool(rings))
        self.assertGreater(found, 50)


class IsRing(unittest.TestCase):
    world = world_with(FULL, joined(to("eve", ann="bob", bob="dan", dan="ann", cyd="ann"), to("cyd", ann="bob", bob="ann")))
    ring = ("eve", ["ann", "bob", "dan"])

    def check(self, answer, *things):
        for thing in things:
            with self.subTest(thing=repr(thing)[:200]):
                kept = copy.deepcopy(thing)
                self.assertIs(is_ring(FULL, self.world, thing), answer)
                self.assertEqual(thing, kept)

    def test_begun_at_each_of_its_houses(self):
        self.check(True, self.ring, ("eve", ["bob", "dan", "ann"]), ("eve", ["dan", "ann", "bob"]))
        self.check(True, ("cyd", ["ann", "bob"]), ("cyd", ["bob", "ann"]))

    def test_turned_about(self):
        self.check(False, ("eve", ["dan", "bob", "ann"]), ("eve", ["ann", "dan", "bob"]), ("eve", ["bob", "ann", "dan"]))

    def test_a_house_left_out(self):
        self.check(False, ("eve", ["ann", "bob"]), ("eve", ["bob", "dan"]), ("eve", ["dan", "ann"]), ("eve", ["ann"]),
                   ("eve", []), ("cyd", ["ann"]))

    def test_a_house_twice(self):
        self.check(False, ("eve", ["ann", "bob", "dan", "ann"]), ("eve", ["ann", "bob", "dan"] * 2),
                   ("eve", ["ann", "ann", "bob", "dan"]), ("cyd", ["ann", "bob", "ann", "bob"]), ("cyd", ["ann", "ann"]))

    def test_a_house_put_in(self):
        self.check(False, ("eve", ["cyd", "ann", "bob", "dan"]), ("eve", ["ann", "bob", "dan", "cyd"]),
                   ("eve", ["ann", "bob", "cyd", "dan"]), ("eve", ["eve", "ann", "bob", "dan"]))

    def test_of_another_wanted_house(self):
        self.check(False, *[(wanted, ["ann", "bob", "dan"]) for wanted in ("ann", "bob", "cyd", "dan", "zoe", "", "Eve")])
        self.check(False, *[(wanted, ["ann", "bob"]) for wanted in ("ann", "bob", "dan", "eve")])

    def test_lists_and_tuples_otherwise(self):
        self.check(False, ["eve", ["ann", "bob", "dan"]], ("eve", ("ann", "bob", "dan")), ["eve", ("ann", "bob", "dan")],
                   (["eve"], ["ann", "bob", "dan"]), ("eve", [["ann", "bob", "dan"]]), ("eve", [("ann",), "bob", "dan"]))

    def test_parts_too_many_or_too_few(self):
        self.check(False, (), ("eve",), (self.ring[1],), self.ring + ("eve",), self.ring + self.ring, self.ring[::-1])

    def test_other_kinds(self):
        self.check(False, *other_kinds())
        for thing in other_kinds():
            self.check(False, ("eve", thing), ("eve", [thing]), ("eve", ["ann", "bob", thing]),
                       ("eve", [thing, "bob", "dan"] if thing != "ann" else [thing]), (thing, ["ann", "bob", "dan"]))

    def test_changed_at_a_place(self):
        as_tuples = ("eve", ("ann", "bob", "dan"))
        for made in (odd, one_off, listed):
            for thing in changed_at(as_tuples, made):
                if isinstance(thing, tuple) and len(thing) == 2 and isinstance(thing[1], tuple):
                    self.check(False, (thing[0], list(thing[1])))
        self.check(False, None, True, {"eve": ["ann", "bob", "dan"]})

    def test_of_a_world_without_rings(self):
        self.assertIs(is_ring(FULL, fresh_world(FULL), self.ring), False)


if __name__ == "__main__":
    unittest.main()
