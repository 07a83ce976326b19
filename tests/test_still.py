import copy
import random
import unittest

from askedways.deeds import world_behind
from askedways.runs import end_of, run_of, worlds_of
from askedways.sound import is_sound
from askedways.still import has_kept, is_still, one_turn, settled
from askedways.worlds import fresh_world, is_world
from kinds import (APART, BIG, FULL, LINE, SQUARE, TWO, WEIGHTS, drawn_net, drawn_run, drawn_still_world,
                   drawn_world)
from telling import has_kept_told, is_still_told, settled_told, turn_told

NO_LETTERS = ((), (), (), ())
ASK = ("ask", "ann", 1, "cyd", 0, (1, 0))
NOTE = ("note", "cyd", (1, 1))


def up(*ties, own=0, asks=0, table=(), seen=()):
    return ("up", own, asks, table, seen, ties)


def line(ann, bob, cyd, *flights):
    """A world of LINE, whose ways are ann bob, bob ann, bob cyd, cyd bob."""
    return ((ann, bob, cyd), flights or NO_LETTERS)


TIED = line(up("bob"), up("ann", "cyd"), up("bob"))
KNOWN = line(up("bob", own=2, asks=2, table=(("bob", 3, None, None), ("cyd", 4, 2, "bob")), seen=(("ann", 2),)),
             up("ann", "cyd", own=2, asks=1, table=(("ann", 2, 1, "ann"), ("cyd", 4, 1, "cyd")), seen=(("ann", 2),)),
             up("bob", own=4, asks=0, table=(("ann", 2, 2, "bob"),), seen=(("ann", 1), ("bob", 1))))


class Case(unittest.TestCase):
    def ask(self, asked, answer, world, net=LINE):
        kept = copy.deepcopy((net, world))
        self.assertIs(is_world(net, world), True)
        for again in range(2):
            self.assertIs(asked(net, world), answer)
        self.assertEqual((net, world), kept)


class IsStill(Case):
    def check(self, answer, *worlds, net=LINE):
        for world in worlds:
            self.ask(is_still, answer, world, net)
            self.assertIs(is_still_told(net, world), answer)

    def test_fresh_worlds(self):
        for net in (TWO, LINE, APART, FULL):
            self.check(True, fresh_world(net), net=net)

    def test_ties_heard_from_both_sides(self):
        self.check(True, TIED, KNOWN, line(up("bob"), up("ann"), up()), line(up(), up("cyd"), up("bob")))

    def test_a_letter_on_a_way(self):
        for at in range(4):
            for letter in (ASK, NOTE, ("broken", (("cyd", 2),)), ("answer", "ann", "cyd", (1, 0))):
                flights = NO_LETTERS[:at] + ((letter,),) + NO_LETTERS[at + 1:]
                self.check(False, (TIED[0], flights))

    def test_a_fault(self):
        row = (("cyd", 1, 2, "bob"),)
        self.check(False, line(up("bob", table=row), up("ann", "cyd"), up("bob")),
                   line(up("bob", table=row), up("ann", "cyd", table=(("cyd", 1, 2, "cyd"),)), up("bob")))
        self.check(True, line(up("bob", table=row), up("ann", "cyd", table=(("cyd", 1, 1, "cyd"),)), up("bob")))

    def test_a_tie_at_one_house_alone(self):
        self.check(False, line(up("bob"), up(), up()), line(up(), up("ann"), up()), line(up("bob"), up("ann", "cyd"), up()),
                   line(up("bob"), up("ann"), up("bob")))

    def test_a_tie_to_a_house_that_is_down(self):
        down = ("down", 3, 1, ())
        self.check(False, line(up("bob"), down, up()), line(up(), down, up("bob")), line(up("bob"), up("ann", "cyd"), down))

    def test_a_house_down_with_no_ties_to_it(self):
        down = ("down", 3, 1, (("cyd", 4),))
        self.check(True, line(up(), down, up()), line(("down", 1, 1, ()), up("cyd"), up("bob")), line(down[:3] + ((),), down, up()))

    def test_houses_that_are_no_neighbours(self):
        self.check(True, fresh_world(APART), net=APART)

    def test_a_down_house_that_is_a_fault_has_a_tie_to_it(self):
        table = (("cyd", 4, 2, "bob"),)
        self.check(False, line(up("bob", table=table), ("down", 3, 1, (("cyd", 5),)), up()))


class HasKept(Case):
    def check(self, answer, *worlds, net=LINE):
        for world in worlds:
            self.ask(has_kept, answer, world, net)
            self.assertIs(has_kept_told(net, world), answer)

    def test_fresh_worlds(self):
        for net in (TWO, LINE, APART, FULL):
            self.check(True, fresh_world(net), net=net)

    def test_worlds_still_and_not(self):
        self.check(True, KNOWN, (KNOWN[0], ((ASK,), (), (NOTE, NOTE), ())), line(up("bob"), up(), up()))

    def number(self, own, row, state="up"):
        cyd = up("bob", own=own) if state == "up" else ("down", own, 0, ())
        return line(up(), up("ann", "cyd", table=(row,)), cyd)

    def test_a_rows_number_to_own(self):
        for own in (0, 1, 3, BIG):
            for more, answer in ((0, True), (1, False), (2, False), (9, False)):
                if own + more:
                    self.check(answer, self.number(own, ("cyd", own + more, 1, "cyd")))
        self.check(True, self.number(5, ("cyd", 2, 1, "cyd")))

    def test_a_broken_rows_number_to_own(self):
        for own in (0, 1, 3, BIG):
            for more, answer in ((0, True), (1, True), (2, False), (9, False)):
                if own + more:
                    self.check(answer, self.number(own, ("cyd", own + more, None, None)))
        self.check(True, self.number(5, ("cyd", 2, None, None)))

    def test_the_wanted_house_down(self):
        for row in (("cyd", 9, 1, "cyd"), ("cyd", 9, None, None)):
            self.check(True, self.number(3, row, "down"))

    def test_an_ask_seen_above_the_askers_asks(self):
        for house in range(3):
            for asks in (0, 1, 4):
                for more, answer in ((-1, True), (0, True), (1, False), (2, False)):
                    if asks + more > 0:
                        states = [up(), up(asks=asks), up()]
                        states[house] = states[house][:4] + ((("bob", asks + more),),) + states[house][5:]
                        self.check(answer, line(*states))

    def test_each_that_is_seen_counts(self):
        self.check(False, line(up(seen=(("ann", 1), ("cyd", 1))), up(), up(asks=1)))
        self.check(False, line(up(asks=1, seen=(("ann", 1), ("ann", 2))), up(), up()))
        self.check(True, line(up(asks=2, seen=(("ann", 1), ("ann", 2))), up(), up()))

    def test_the_asker_down(self):
        self.check(True, line(up(seen=(("bob", 9),)), ("down", 1, 1, ()), up()))

    def test_what_a_house_that_is_down_knows(self):
        self.check(True, line(up(), ("down", 1, 1, (("ann", 9), ("cyd", 9))), up()))

    def test_in_each_house(self):
        broken = (("ann", 3, None, None),)
        self.check(False, line(up(own=1), up(table=broken), up()), line(up(own=1), up(), up(table=broken)))
        self.check(True, line(up(own=2), up(table=broken), up(table=broken)))

    def test_each_still_world_of_a_run_by_kept_or_without_stops(self):
        still = 0
        for at in range(24):
            net, rule = (TWO, LINE, SQUARE, FULL)[at % 4], ("kept", "wait", "bare")[at % 3]
            weights = dict(WEIGHTS, stop=1 if rule == "kept" else 0)
            for world in worlds_of(drawn_run(random.Random(at), rule, net, 60, weights)):
                if is_still(net, world):
                    self.check(True, world, net=net)
                    still += 1
        self.assertGreater(still, 60)


class OneTurn(unittest.TestCase):
    def check(self, world, behind, taken, net=LINE):
        kept = copy.deepcopy((net, world))
        for again in range(2):
            told = one_turn(net, world)
            self.assertEqual(repr(told), repr((behind, taken)))
            self.assertEqual(repr(turn_told(net, world)), repr(told))
        self.assertEqual((net, world), kept)

    def test_with_no_letter(self):
        for world in (TIED, KNOWN, fresh_world(LINE)):
            self.check(world, world, 0)

    def test_what_is_sent_waits_for_the_next_one(self):
        asked = line(up("bob", own=1, asks=1, seen=(("ann", 1),)), up("ann", "cyd"), up("bob"), (ASK,), (), (), ())
        bob = up("ann", "cyd", table=(("ann", 1, 1, "ann"),), seen=(("ann", 1),))
        on = ("ask", "ann", 1, "cyd", 0, (1, 1))
        self.check(asked, line(asked[0][0], bob, up("bob"), (), (), (on,), ()), 1)
        cyd = up("bob", own=1, table=(("ann", 1, 2, "bob"),), seen=(("ann", 1),))
        answer = ("answer", "ann", "cyd", (1, 0))
        self.check(line(asked[0][0], bob, up("bob"), (), (), (on,), ()), line(asked[0][0], bob, cyd, (), (), (), (answer,)), 1)

    def test_sent_behind_what_lies_on_a_later_way(self):
        # Bob takes ann's ask and lets it go on to cyd, behind a note that lies there; the note is taken, the ask waits.
        asked = line(up("bob", own=1, asks=1, seen=(("ann", 1),)), up("ann", "cyd"), up("bob"), (ASK,), (),
                     (("note", "ann", (1, 1)),), ())
        bob = up("ann", "cyd", table=(("ann", 1, 1, "ann"),), seen=(("ann", 1),))
        self.check(asked, line(asked[0][0], bob, up("bob", table=(("ann", 1, 2, "bob"),)), (), (),
                               (("ask", "ann", 1, "cyd", 0, (1, 1)),), ()), 2)

    def test_several_on_one_way_in_order(self):
        notes = (("note", "cyd", (1, 1)), ("note", "cyd", (2, 7)), ("note", "cyd", (2, 8)))
        self.check(line(up("bob"), up("ann"), up(), (), notes, (), ()), line(up("bob", table=(("cyd", 2, 8, "bob"),)), up("ann"), up()), 3)

    def test_several_on_several_ways_in_order(self):
        # By the way from ann first: so bob's row is broken before cyd's note is taken.
        bob = up("ann", "cyd", table=(("dan", 1, 2, "ann"),))
        net = (("ann", "bob", "cyd", "dan"), (("ann", "bob"), ("bob", "cyd")))
        flights = ((("broken", (("dan", 2),)),), (), (), (("note", "dan", (1, 0)), ("note", "dan", (2, 3))))
        behind = up("ann", "cyd", table=(("dan", 2, 4, "cyd"),))
        self.check(((up("bob"), bob, up("bob"), up()), flights),
                   ((up("bob"), behind, up("bob"), up()), ((), (), (("broken", (("dan", 2),)),), ())), 3, net=net)

    def test_each_taken_letter_is_counted_though_nothing_comes_of_it(self):
        self.check(line(up(), up(), up(), (NOTE, NOTE), (NOTE,), (), ()), line(up(), up(), up()), 3)

    def test_to_a_house_that_is_down_lost_and_not_counted(self):
        down = ("down", 3, 1, (("cyd", 4),))
        self.check(line(up("bob"), down, up("bob"), (ASK, NOTE), (), (), (NOTE,)), line(up("bob"), down, up("bob")), 0)
        self.check(line(up("bob"), down, up("bob"), (ASK, NOTE), (), (("note", "ann", (1, 1)),), (NOTE,)),
                   line(up("bob"), down, up("bob", table=(("ann", 1, 2, "bob"),))), 1)

    def test_two_hundred_letters(self):
        lying = line(up("bob"), up("ann"), up(), (("note", "ann", (1, 0)),) * 120, (("note", "cyd", (BIG, BIG)),) * 80, (), ())
        behind = line(up("bob", table=(("cyd", BIG, BIG + 1, "bob"),)), up("ann", table=(("ann", 1, 1, "ann"),)), up())
        self.check(lying, behind, 200)

    def test_over_drawn_worlds(self):
        dice = random.Random(23)
        for again in range(300):
            net = dice.choice((TWO, LINE, SQUARE, FULL, drawn_net(dice)))
            world = drawn_world(dice, net, 12)
            self.check(world, *turn_told(net, world), net=net)
            self.assertIs(is_world(net, one_turn(net, world)[0]), True)


class Settled(unittest.TestCase):
    def check(self, world, net=LINE):
        kept = copy.deepcopy((net, world))
        told = settled(net, world)
        self.assertIs(type(told), tuple)
        self.assertEqual(repr(told), repr(settled_told(net, world)))
        behind, turns, letters = world, 0, 0
        while [on for on in behind[1] if on]:
            behind, taken = one_turn(net, behind)
            turns, letters = turns + 1, letters + taken
        # Its letters are the sum of its turns'.
        self.assertEqual(told, (behind, turns, letters))
        self.assertEqual(settled(net, world), told)
        self.assertEqual((net, world), kept)
        return told

    def test_with_none(self):
        for world in (TIED, KNOWN, fresh_world(LINE)):
            self.assertEqual(self.check(world), (world, 0, 0))

    def test_with_one(self):
        world = line(up("bob"), up("ann", table=(("ann", 1, 1, "ann"),)), up(), (), (("note", "ann", (1, 1)),), (), ())
        self.assertEqual(self.check(world), (line(up("bob"), up("ann", table=(("ann", 1, 1, "ann"),)), up()), 1, 1))

    def test_with_several(self):
        asked = world_behind("kept", LINE, TIED, ("ask", "ann", "cyd"))
        seen = (("ann", 1),)
        self.assertEqual(self.check(asked), (line(
            up("bob", own=1, asks=1, table=(("cyd", 1, 2, "bob"),), seen=seen),
            up("ann", "cyd", table=(("ann", 1, 1, "ann"), ("cyd", 1, 1, "cyd")), seen=seen),
            up("bob", own=1, table=(("ann", 1, 2, "bob"),), seen=seen)), 4, 4))

    def test_a_turn_in_which_all_are_lost_is_one_all_the_same(self):
        down = ("down", 3, 1, (("cyd", 4),))
        self.assertEqual(self.check(line(up("bob"), down, up(), (ASK, ASK), (), (), ())), (line(up("bob"), down, up()), 1, 0))

    def test_more_on_some_ways_than_on_others(self):
        run = run_of("kept", LINE, [("find", "ann", "bob"), ("find", "bob", "ann"), ("find", "bob", "cyd"), ("find", "cyd", "bob"),
                                    ("ask", "ann", "cyd"), ("ask", "ann", "bob"), ("ask", "bob", "cyd"), ("ask", "cyd", "ann")])
        self.assertGreater(self.check(end_of(run))[2], 8)

    def test_over_drawn_runs(self):
        turns = set()
        for at in range(60):
            net, rule = (TWO, LINE, SQUARE, FULL)[at % 4], ("kept", "wait")[at % 2]
            run = drawn_run(random.Random(at), rule, net, 40, {"find": 20, "ask": 6, "take": 6, "lose": 1, "stop": 1, "up": 2, "note": 2})
            told = self.check(end_of(run), net)
            turns.add(told[1])
            # Behind it all is as sound as ahead of it.
            self.assertIs(is_sound(net, told[0]), True)
            self.assertIs(is_world(net, told[0]), True)
        self.assertGreater(len(turns), 4)


class AllTogether(unittest.TestCase):
    def test_still_and_kept_as_they_are_told_once_more(self):
        dice = random.Random(7)
        answers = set()
        for again in range(700):
            net = drawn_net(dice)
            world = dice.choice((drawn_world(dice, net, dice.choice((0, 0, 3))), drawn_still_world(dice, net, dice.choice((0, 1)))))
            if dice.random() < 0.3:
                # A tie that one house alone hears.
                one, other = dice.sample(net[0], 2)
                for at, state in enumerate(world[0]):
                    if net[0][at] == one and state[0] == "up" and tuple(sorted((one, other))) in net[1]:
                        state = state[:5] + (tuple(sorted({*state[5], other})),)
                        world = (world[0][:at] + (state,) + world[0][at + 1:], world[1])
            told = (is_still(net, world), has_kept(net, world))
            self.assertEqual(told, (is_still_told(net, world), has_kept_told(net, world)))
            answers.add(told)
        self.assertEqual(len(answers), 4)

    def test_drawn_still_worlds_are_still(self):
        dice = random.Random(8)
        for again in range(200):
            net = drawn_net(dice)
            world = drawn_still_world(dice, net)
            self.assertIs(is_world(net, world), True)
            self.assertIs(is_still(net, world), True)
            self.assertIs(has_kept(net, world), True)


if __name__ == "__main__":
    unittest.main()
