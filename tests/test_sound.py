import copy
import itertools
import random
import unittest

from askedways.deeds import why_not
from askedways.labels import is_nearer
from askedways.runs import end_of, run_of, worlds_of
from askedways.sound import faults_in, is_sound
from askedways.ways import fall_of, ring_in, way_to
from askedways.worlds import fresh_world, is_world, state_of
from kinds import BIG, FULL, LINE, SQUARE, TWO, drawn_run, drawn_world, world_with
from telling import faults_told

# Bob finds cyd and notes it to ann; then it stops, and comes up with nothing, or with its numbers.
STOPPED = (("find", "bob", "cyd"), ("find", "cyd", "bob"), ("find", "ann", "bob"), ("find", "bob", "ann"),
           ("ask", "bob", "cyd"), ("take", "cyd", "bob", 0), ("take", "bob", "cyd", 0), ("note", "bob", "cyd"),
           ("take", "ann", "bob", 1), ("stop", "bob"))
ROUND = STOPPED + (("up", "bob"), ("find", "bob", "ann"), ("note", "ann", "cyd"), ("take", "bob", "ann", 0))


class Faults(unittest.TestCase):
    def check(self, world, *faults, net=FULL):
        self.assertIs(is_world(net, world), True)
        kept = copy.deepcopy(world)
        for again in range(2):
            told = faults_in(net, world)
            self.assertEqual(repr(told), repr(list(faults)))
            self.assertIs(is_sound(net, world), not faults)
            told.append("changed")
        self.assertEqual(world, kept)


class NoFaults(Faults):
    def test_fresh_worlds(self):
        for net in (TWO, LINE, SQUARE, FULL):
            self.check(fresh_world(net), net=net)

    def test_a_world_of_rows_letters_and_a_house_that_is_down(self):
        world = world_with(
            FULL, {"ann": [("eve", 2, 3, "bob")], "bob": [("eve", 2, 2, "cyd")], "cyd": [("eve", 2, 1, "eve")]},
            {"dan": [("eve", 3)]}, {("ann", "bob"): [("note", "eve", (2, 3))], ("dan", "ann"): [("note", "eve", (2, 1))]})
        self.check(world)


class Rows(Faults):
    def rows(self, ahead, behind, *faults, down=None):
        """Ann goes on by bob to eve: ann's row and bob's."""
        tables = {"ann": [("eve",) + ahead + ("bob",)], "bob": [("eve",) + behind] if behind else []}
        self.check(world_with(FULL, tables, down), *faults)

    def test_the_next_nearer(self):
        self.rows((2, 3), (2, 2, "eve"))
        self.rows((2, 3), (2, 1, "eve"))
        self.rows((2, 3), (3, 3, "eve"))
        self.rows((2, 3), (3, 9, "eve"))
        self.rows((2, 3), (3, None, None))
        self.rows((BIG, 3), (BIG, 2, "eve"))
        self.rows((BIG - 1, 3), (BIG, BIG, "eve"))

    def test_the_same_label(self):
        self.rows((2, 3), (2, 3, "eve"), ("row", "ann", "eve"))
        self.rows((BIG, BIG), (BIG, BIG, "eve"), ("row", "ann", "eve"))

    def test_a_farther_one(self):
        self.rows((2, 3), (2, 4, "eve"), ("row", "ann", "eve"))
        self.rows((2, 3), (1, 1, "eve"), ("row", "ann", "eve"))
        self.rows((2, 3), (2, None, None), ("row", "ann", "eve"))
        self.rows((2, 3), (1, None, None), ("row", "ann", "eve"))

    def test_none(self):
        self.rows((2, 3), None, ("row", "ann", "eve"))

    def test_the_next_down(self):
        self.rows((2, 3), None, down={"bob": [("eve", 3)]})

    def test_the_next_the_wanted_house(self):
        # Whatever eve's own number is: it is eve to whom the way goes.
        for own in (0, 1, 2, 9):
            states, flights = world_with(FULL, {"ann": [("eve", 2, 3, "eve")]})
            self.check((states[:4] + (("up", own) + states[4][2:],), flights))
        self.check(world_with(FULL, {"ann": [("eve", 2, 3, "eve")]}, {"eve": []}))

    def test_broken_rows_and_houses_that_are_down_have_none(self):
        self.check(world_with(FULL, {"ann": [("eve", 9, None, None)]}))
        self.check(world_with(FULL, {"bob": [("eve", 2, 1, "eve")]}, {"ann": [("eve", 9)]}))

    def test_by_houses_and_by_wanted_ones(self):
        tables = {"cyd": [("bob", 1, 1, "ann"), ("ann", 1, 1, "dan")], "ann": [("eve", 1, 1, "bob"), ("dan", 1, 1, "bob")]}
        self.check(world_with(FULL, tables), ("row", "ann", "dan"), ("row", "ann", "eve"), ("row", "cyd", "ann"),
                   ("row", "cyd", "bob"))


class Letters(Faults):
    kinds = (("ask", "eve", 1, "dan", 0), ("answer", "dan", "eve"), ("note", "eve"))

    def letters(self, label, claim, *places, down=None):
        """Ann's row of eve, and letters to bob of each kind that claim this for eve."""
        letters = [letter + (claim,) for letter in self.kinds]
        world = world_with(FULL, {"ann": [("eve",) + label] if label else []}, down, {("ann", "bob"): letters})
        self.check(world, *[("letter", "ann", "bob", place) for place in places])

    def test_as_near_and_farther(self):
        row = (2, 3, "eve")
        for claim in ((2, 3), (2, 4), (1, 0), (1, 3)):
            self.letters(row, claim)
        for claim in ((1, 0), (1, 9)):
            self.letters((2, None, None), claim)
        self.letters((BIG, BIG, "eve"), (BIG, BIG))

    def test_nearer(self):
        row = (2, 3, "eve")
        for claim in ((2, 2), (2, 0), (3, 0), (3, 9), (BIG, BIG)):
            self.letters(row, claim, 0, 1, 2)
        self.letters((2, None, None), (2, 9), 0, 1, 2)
        self.letters(None, (1, 9), 0, 1, 2)

    def test_the_sender_down(self):
        self.letters(None, (2, 3), down={"ann": [("eve", 3)]})

    def test_the_sender_the_house_of_the_claim(self):
        letters = [("ask", "ann", 1, "eve", 0, (9, 0)), ("answer", "eve", "ann", (9, 0)), ("note", "ann", (9, 3))]
        self.check(world_with(FULL, {}, None, {("ann", "bob"): letters}))

    def test_the_claim_is_for_the_asker_in_an_ask_and_for_the_wanted_house_in_an_answer(self):
        tables = {"ann": [("eve", 5, 1, "eve")]}
        letters = [("ask", "eve", 1, "dan", 0, (5, 1)), ("ask", "dan", 1, "eve", 0, (5, 1)),
                   ("answer", "dan", "eve", (5, 1)), ("answer", "eve", "dan", (5, 1))]
        self.check(world_with(FULL, tables, None, {("ann", "bob"): letters}), ("letter", "ann", "bob", 1),
                   ("letter", "ann", "bob", 3))

    def test_broken_ones_claim_nothing(self):
        self.check(world_with(FULL, {}, None, {("ann", "bob"): [("broken", (("cyd", 9), ("eve", 9)))]}))

    def test_the_receiver_may_be_down_or_the_house_of_the_claim(self):
        letters = {("ann", "bob"): [("note", "bob", (2, 0))]}
        self.check(world_with(FULL, {}, None, letters), ("letter", "ann", "bob", 0))
        self.check(world_with(FULL, {}, {"bob": []}, letters), ("letter", "ann", "bob", 0))

    def test_by_ways_and_places(self):
        good, bad = ("note", "eve", (1, 9)), ("note", "eve", (2, 0))
        world = world_with(FULL, {house: [("eve", 1, 9, "eve")] for house in ("ann", "bob", "cyd")}, None, {
            ("cyd", "ann"): [bad], ("ann", "dan"): [good, bad], ("ann", "bob"): [bad, good, bad], ("bob", "ann"): [bad]})
        self.check(world, ("letter", "ann", "bob", 0), ("letter", "ann", "bob", 2), ("letter", "ann", "dan", 1),
                   ("letter", "bob", "ann", 0), ("letter", "cyd", "ann", 0))


class Downs(Faults):
    fault = ("down", "bob", "eve")

    def test_by_a_row(self):
        for number in (1, 4, BIG):
            tables = {"ann": [("eve", number, 3, "bob")]}
            self.check(world_with(FULL, tables, {"bob": [("eve", number + 1)]}))
            self.check(world_with(FULL, tables, {"bob": [("eve", number)]}), self.fault)
            self.check(world_with(FULL, tables, {"bob": []}), self.fault)
            self.check(world_with(FULL, tables, {"bob": [("dan", BIG)]}), self.fault)
        self.check(world_with(FULL, {"ann": [("eve", 4, 3, "bob")]}, {"bob": [("eve", 3)]}), self.fault)

    def test_by_a_letter_of_each_kind(self):
        for letter in Letters.kinds:
            flights = {("bob", "ann"): [letter + ((4, 1),)]}
            self.check(world_with(FULL, {}, {"bob": [("eve", 5)]}, flights))
            for known in ([("eve", 4)], [("eve", 3)], [], [("dan", 9)]):
                self.check(world_with(FULL, {}, {"bob": known}, flights), self.fault)

    def test_by_a_letter_to_a_house_that_is_down(self):
        flights = {("bob", "ann"): [("note", "eve", (4, 1))]}
        self.check(world_with(FULL, {}, {"bob": [], "ann": []}, flights), self.fault)

    def test_broken_rows_broken_letters_and_letters_to_it_do_not_count(self):
        flights = {("bob", "ann"): [("broken", (("eve", 9),))], ("ann", "bob"): [("ask", "ann", 1, "eve", 0, (4, 0))]}
        self.check(world_with(FULL, {"ann": [("eve", 4, None, None)]}, {"bob": []}, flights))

    def test_of_the_house_itself_there_is_none(self):
        flights = {("bob", "ann"): [("note", "bob", (9, 0)), ("ask", "bob", 1, "eve", 0, (9, 0))]}
        self.check(world_with(FULL, {"ann": [("bob", 9, 1, "bob")]}, {"bob": []}, flights))

    def test_by_another_next_there_is_none(self):
        tables = {"ann": [("eve", 4, 3, "cyd")], "cyd": [("eve", 4, 2, "eve")]}
        self.check(world_with(FULL, tables, {"bob": []}))

    def test_a_row_of_the_wanted_houses_neighbour(self):
        # Of a claim for the receiver itself, too.
        flights = {("bob", "ann"): [("note", "ann", (4, 1))]}
        self.check(world_with(FULL, {}, {"bob": []}, flights), ("down", "bob", "ann"))

    def test_the_greatest_counts(self):
        tables = {"ann": [("eve", 2, 3, "bob")], "cyd": [("eve", 6, 3, "bob")]}
        self.check(world_with(FULL, tables, {"bob": [("eve", 7)]}))
        self.check(world_with(FULL, tables, {"bob": [("eve", 6)]}), self.fault)
        self.check(world_with(FULL, tables, {"bob": [("eve", 3)]}), self.fault)
        flights = {("bob", "ann"): [("note", "eve", (1, 1)), ("note", "eve", (7, 1)), ("note", "eve", (2, 1))]}
        self.check(world_with(FULL, tables, {"bob": [("eve", 7)]}, flights), self.fault)
        self.check(world_with(FULL, tables, {"bob": [("eve", 8)]}, flights))

    def test_each_once_by_houses_and_by_wanted_ones(self):
        tables = {"ann": [("eve", 2, 3, "dan"), ("cyd", 2, 3, "bob")], "cyd": [("eve", 6, 3, "dan"), ("ann", 6, 3, "bob")]}
        flights = {("dan", "ann"): [("note", "eve", (1, 1))] * 3, ("dan", "eve"): [("note", "ann", (1, 1))]}
        self.check(world_with(FULL, tables, {"dan": [], "bob": []}, flights), ("down", "bob", "ann"),
                   ("down", "bob", "cyd"), ("down", "dan", "ann"), ("down", "dan", "eve"))


class Order(Faults):
    def test_rows_then_letters_then_houses_that_are_down(self):
        tables = {"cyd": [("ann", 1, 1, "dan"), ("eve", 2, 3, "bob")], "dan": [("eve", 1, 1, "cyd")]}
        flights = {("ann", "cyd"): [("note", "eve", (1, 0))], ("cyd", "dan"): [("note", "dan", (1, 0))],
                   ("bob", "ann"): [("note", "ann", (1, 1))]}
        self.check(world_with(FULL, tables, {"bob": []}, flights),
                   ("row", "cyd", "ann"), ("letter", "ann", "cyd", 0), ("letter", "cyd", "dan", 0),
                   ("down", "bob", "ann"), ("down", "bob", "eve"))


class AllTogether(Faults):
    def test_as_they_are_told_once_more_over_drawn_worlds(self):
        dice = random.Random(19)
        words = set()
        for turn in range(1500):
            net = dice.choice((TWO, LINE, SQUARE, FULL))
            world = drawn_world(dice, net)
            faults = faults_told(net, world)
            words.update([fault[0] for fault in faults])
            self.check(world, *faults, net=net)
            # In a world without faults of rows there is no ring.
            if not [fault for fault in faults if fault[0] == "row"]:
                self.assertIsNone(ring_in(net, world))
        self.assertEqual(words, {"row", "letter", "down"})


class Runs(Faults):
    def test_by_kept_and_by_wait_every_world_is_sound_and_without_a_ring(self):
        for at in range(60):
            rule, net = ("kept", "wait")[at % 2], (TWO, LINE, SQUARE, FULL, FULL)[at % 5]
            for world in worlds_of(drawn_run(random.Random(at), rule, net, 60)):
                self.assertEqual(faults_in(net, world), [])
                self.assertIs(is_sound(net, world), True)
                self.assertIsNone(ring_in(net, world))

    def test_what_a_house_knows_never_goes_back(self):
        for at in range(20):
            rule, net = ("kept", "wait")[at % 2], (SQUARE, FULL)[at % 2]
            run = drawn_run(random.Random(at), rule, net, 60)
            worlds = worlds_of(run)
            for deed, ahead, behind in zip(run[2], worlds, worlds[1:]):
                if rule == "wait" and deed[0] == "up":
                    continue
                for house, wanted in itertools.permutations(net[0], 2):
                    one, other = known_in(net, ahead, house, wanted), known_in(net, behind, house, wanted)
                    self.assertIs(is_nearer(one, other), False)

    def test_by_bare_one_is_not(self):
        worlds = worlds_of(run_of("bare", LINE, ROUND))
        self.assertEqual([is_sound(LINE, world) for world in worlds], [True] * 11 + [False] * 4)
        # Bob's note to cyd is on its way still.
        self.check(worlds[11], ("row", "ann", "cyd"), ("letter", "bob", "cyd", 0), net=LINE)
        self.check(worlds[14], ("row", "ann", "cyd"), ("letter", "bob", "cyd", 0), net=LINE)
        self.assertEqual(ring_in(LINE, worlds[14]), ("cyd", ["ann", "bob"]))
        self.assertEqual(way_to(LINE, worlds[14], "ann", "cyd"), ("round", ["ann", "bob", "ann"]))
        self.assertEqual(fall_of(LINE, worlds[14], "ann", "cyd"), [(1, 2), (1, 3)])

    def test_by_kept_the_same_run_makes_no_ring(self):
        run = run_of("kept", LINE, ROUND)
        self.check(end_of(run), net=LINE)
        self.assertEqual(way_to(LINE, end_of(run), "ann", "cyd"), ("lost", ["ann", "bob"]))

    def test_by_wait_it_cannot_be_done(self):
        run = run_of("wait", LINE, STOPPED)
        self.assertEqual(why_not("wait", LINE, end_of(run), ("up", "bob")), "wait")
        self.check(end_of(run), net=LINE)


def known_in(net, world, house, wanted):
    """What a house knows of another one in a world, up or down, as a label."""
    state = state_of(net, world, house)
    for row in state[3]:
        if row[0] == wanted:
            return (row[1], row[2] if state[0] == "up" else None)
    return None


if __name__ == "__main__":
    unittest.main()
