import copy
import random
import unittest

from askedways.deeds import why_not, world_behind
from askedways.errors import NoDeed
from askedways.nets import ways_of
from askedways.worlds import flying, fresh_world, is_world, state_of
from kinds import (APART, BIG, FULL, LINE, SQUARE, TWO, changed_at, deeds_in, drawn_run, listed, other_kinds,
                   things_of_other_kinds_in)
from telling import WorldTold

RULES = ("kept", "wait", "bare")
FRESH = ("up", 0, 0, (), (), ())
NOTE = ("note", "cyd", (3, 0))
ASK = ("ask", "ann", 2, "cyd", 0, (2, 0))
BROKEN = ("broken", (("ann", 2),))
ANN = ("up", 2, 2, (("bob", 1, 1, "bob"), ("cyd", 3, 2, "bob")), (("ann", 1), ("ann", 2)), ("bob",))
BOB = ("up", 4, 1, (("ann", 2, 1, "ann"), ("cyd", 3, 1, "cyd")), (("bob", 1),), ("ann", "cyd"))
CYD = ("up", 4, 0, (("ann", 2, None, None), ("bob", 5, 1, "bob")), (("ann", 2),), ("bob",))
DOWN = ("down", 6, 3, (("ann", 7), ("cyd", 4)))
# LINE's ways: ann bob, bob ann, bob cyd, cyd bob.
FLIGHTS = ((ASK, NOTE), (NOTE,), (), (BROKEN, NOTE, BROKEN))
WORLD = ((ANN, BOB, CYD), FLIGHTS)
WITHOUT_BOB = ((ANN, DOWN, CYD), FLIGHTS)
DEEDS = (("find", "ann", "bob"), ("lose", "ann", "bob"), ("ask", "ann", "cyd"), ("fail", "ann", "cyd"),
         ("note", "ann", "cyd"), ("take", "ann", "bob", 0), ("drop", "ann", "bob", 0), ("twice", "ann", "bob", 0),
         ("stop", "ann"), ("up", "ann"))


def with_state(world, house, state):
    """The world of LINE with this state of a house."""
    at = LINE[0].index(house)
    return (world[0][:at] + (state,) + world[0][at + 1:], world[1])


def with_letters(world, one, other, letters):
    """The world of LINE with these letters on a way."""
    at = ways_of(LINE).index((one, other))
    return (world[0], world[1][:at] + (letters,) + world[1][at + 1:])


class Whys(unittest.TestCase):
    def check(self, why, world, *deeds, rules=RULES, net=LINE):
        """That each of these is told by why_not and by world_behind, with what is handed in left as it was."""
        for rule in rules:
            for deed in deeds:
                with self.subTest(rule=rule, deed=repr(deed)[:200]):
                    kept = copy.deepcopy((world, deed))
                    self.assertEqual(repr(why_not(rule, net, world, deed)), repr(why))
                    if why is None:
                        self.assertIs(is_world(net, world_behind(rule, net, world, deed)), True)
                    else:
                        with self.assertRaises(NoDeed) as caught:
                            world_behind(rule, net, world, deed)
                        self.assertEqual(caught.exception.why, why)
                        self.assertIsNone(caught.exception.at)
                    self.assertEqual((world, deed), kept)


class Kind(Whys):
    def test_each_changed_at_a_place(self):
        for deed in DEEDS:
            for thing in things_of_other_kinds_in(deed):
                # A place may be any number from 0 on: that is no other kind.
                if not (len(deed) == 4 and thing == deed[:3] + (BIG,)):
                    self.check("kind", WORLD, thing, rules=("wait",))

    def test_a_part_too_many_and_too_few(self):
        for deed in DEEDS:
            self.check("kind", WORLD, deed[:-1], deed[1:], deed + ("cyd",), deed + (0,), deed + (None,), deed + ((),), ())
        self.check("kind", WORLD, ("stop", "ann", "bob"), ("up", "ann", "bob"), ("ask", "ann"), ("find", "ann", "bob", 0))

    def test_lists_are_no_tuples(self):
        for deed in DEEDS:
            self.check("kind", WORLD, *changed_at(deed, listed))
            self.check("kind", WORLD, deed[:1] + (list(deed[1:]),), (list(deed),))

    def test_truths_and_others_are_no_places(self):
        for word in ("take", "drop", "twice"):
            for place in (True, False, None, -1, -BIG, "0", (0,), [0], {}):
                self.check("kind", WORLD, (word, "ann", "bob", place))

    def test_unknown_words(self):
        for word in ("", "Find", "finds", "go", "ann", "find ", None, 0, True, ("find",), ["find"], {"find": 1}):
            self.check("kind", WORLD, (word, "ann"), (word, "ann", "bob"), (word, "ann", "bob", 0))

    def test_a_word_with_the_parts_of_another_one(self):
        for one in DEEDS:
            for other in DEEDS:
                if len(one) != len(other):
                    self.check("kind", WORLD, one[:1] + other[1:])

    def test_one_house_twice(self):
        for word in ("find", "lose", "ask", "fail", "note"):
            self.check("kind", WORLD, *[(word, house, house) for house in LINE[0]])
        for word in ("take", "drop", "twice"):
            self.check("kind", WORLD, *[(word, house, house, 0) for house in LINE[0]])

    def test_no_houses(self):
        for word in ("find", "lose", "ask", "fail", "note"):
            self.check("kind", WORLD, (word, "dan", "bob"), (word, "ann", "dan"), (word, "dan", "eve"))
        for word in ("take", "drop", "twice"):
            self.check("kind", WORLD, (word, "dan", "bob", 0), (word, "ann", "dan", 0))
        self.check("kind", WORLD, ("stop", "dan"), ("up", "dan"), ("stop", ""), ("up", None))

    def test_no_neighbours(self):
        for one, other in (("ann", "cyd"), ("cyd", "ann")):
            self.check("kind", WORLD, ("find", one, other), ("lose", one, other))
            for word in ("take", "drop", "twice"):
                self.check("kind", WORLD, (word, one, other, 0))
        # To ask, fail and note, they needn't be.
        self.check(None, WORLD, ("ask", "ann", "cyd"), ("fail", "ann", "cyd"), ("note", "ann", "cyd"))
        for net in (APART, FULL):
            self.check("kind" if net == APART else None, fresh_world(net), ("find", "ann", "cyd"), net=net)

    def test_other_kinds(self):
        self.check("kind", WORLD, *other_kinds())
        for thing in other_kinds():
            if thing not in LINE[0]:
                self.check("kind", WORLD, ("stop", thing), ("ask", "ann", thing), ("ask", thing, "ann"),
                           ("find", "ann", thing), ("take", "ann", thing, 0), rules=("kept",))

    def test_goes_ahead_of_all_else(self):
        self.check("kind", WITHOUT_BOB, ("find", "bob", "bob"), ("stop", "bob", 0), ("take", "bob", "ann", -1))
        self.check("kind", WORLD, ("take", "ann", "cyd", BIG), ("lose", "ann", "cyd"), ("fail", "ann", "ann"))


class DownAndUp(Whys):
    def test_of_a_house_that_is_down(self):
        self.check("down", WITHOUT_BOB, ("find", "bob", "ann"), ("lose", "bob", "ann"), ("ask", "bob", "ann"),
                   ("fail", "bob", "ann"), ("note", "bob", "ann"), ("take", "bob", "ann", 0), ("stop", "bob"))

    def test_drop_and_twice_also_where_it_is_down(self):
        self.check(None, WITHOUT_BOB, ("drop", "bob", "ann", 0), ("twice", "bob", "cyd", 2))

    def test_up_where_it_is_up(self):
        self.check("up", WORLD, ("up", "ann"), ("up", "bob"), ("up", "cyd"))
        self.check("up", fresh_world(LINE), ("up", "ann"))

    def test_down_goes_ahead_of_letter(self):
        self.check("down", WITHOUT_BOB, ("take", "bob", "ann", 2), ("take", "bob", "ann", BIG))
        self.check("letter", WITHOUT_BOB, ("drop", "bob", "ann", 2), ("twice", "bob", "ann", BIG))

    def test_down_goes_ahead_of_tie_and_row(self):
        # No row and no tie is known of a house that is down: each of these would be refused for it, too.
        self.check("down", WITHOUT_BOB, ("lose", "bob", "cyd"), ("fail", "bob", "cyd"), ("note", "bob", "cyd"))

    def test_up_goes_ahead_of_wait(self):
        # Bob is up, among ann's ties, and letters are on ways from it.
        self.check("up", WORLD, ("up", "bob"), rules=("wait",))


class Tie(Whys):
    def test_find(self):
        self.check("tie", WORLD, ("find", "ann", "bob"), ("find", "bob", "ann"), ("find", "bob", "cyd"))
        self.check(None, fresh_world(LINE), ("find", "ann", "bob"), ("find", "bob", "ann"))

    def test_of_one_side_alone(self):
        world = with_state(fresh_world(LINE), "ann", ("up", 0, 0, (), (), ("bob",)))
        self.check("tie", world, ("find", "ann", "bob"), ("lose", "bob", "ann"))
        self.check(None, world, ("find", "bob", "ann"), ("lose", "ann", "bob"))

    def test_find_where_other_is_down(self):
        self.check(None, with_state(WITHOUT_BOB, "ann", FRESH), ("find", "ann", "bob"))
        self.check("tie", WITHOUT_BOB, ("find", "ann", "bob"))
        self.check(None, WITHOUT_BOB, ("lose", "ann", "bob"))

    def test_lose(self):
        self.check("tie", fresh_world(LINE), ("lose", "ann", "bob"), ("lose", "bob", "cyd"))
        self.check(None, WORLD, ("lose", "ann", "bob"), ("lose", "bob", "cyd"))


class Letter(Whys):
    def test_of_each_way(self):
        for word in ("take", "drop", "twice"):
            for (one, other), letters in zip(ways_of(LINE), FLIGHTS):
                for place in range(len(letters) + 2):
                    why = None if place < len(letters) else "letter"
                    self.check(why, WORLD, (word, other, one, place))
                self.check("letter", WORLD, (word, other, one, BIG))


class Row(Whys):
    def test_fail_and_note(self):
        for word in ("fail", "note"):
            self.check(None, WORLD, (word, "ann", "bob"), (word, "ann", "cyd"), (word, "bob", "ann"), (word, "cyd", "bob"))
            self.check("row", WORLD, (word, "cyd", "ann"))
            self.check("row", with_state(WORLD, "bob", FRESH), (word, "bob", "ann"), (word, "bob", "cyd"))


class Wait(Whys):
    def test_with_neither(self):
        quiet = (((("up", 0, 0, (), (), ())), DOWN, FRESH), ((ASK,), (), (), (BROKEN,)))
        self.check(None, quiet, ("up", "bob"))

    def test_among_the_ties_of_a_house_that_is_up(self):
        for one in ("ann", "cyd"):
            world = with_state(((FRESH, DOWN, FRESH), ((), (), (), ())), one, ("up", 0, 0, (), (), ("bob",)))
            self.check("wait", world, ("up", "bob"), rules=("wait",))
            self.check(None, world, ("up", "bob"), rules=("kept", "bare"))

    def test_another_house_among_the_ties(self):
        world = ((("down", 0, 0, ()), FRESH[:5] + (("cyd",),), FRESH[:5] + (("bob",),)), ((), (), (), ()))
        self.check(None, world, ("up", "ann"))

    def test_a_letter_on_a_way_from_it(self):
        for other in ("ann", "cyd"):
            world = with_letters(((FRESH, DOWN, FRESH), ((), (), (), ())), "bob", other, (NOTE,))
            self.check("wait", world, ("up", "bob"), rules=("wait",))
            self.check(None, world, ("up", "bob"), rules=("kept", "bare"))

    def test_a_letter_on_a_way_from_it_to_a_house_that_is_down(self):
        world = ((("down", 0, 0, ()), DOWN, FRESH), ((), (NOTE,), (), ()))
        self.check("wait", world, ("up", "bob"), rules=("wait",))
        self.check(None, world, ("up", "ann"))


class Behind(unittest.TestCase):
    def check(self, world, deed, states=None, flights=None, rules=RULES):
        """That behind the deed these states and flights are other ones, all others as they were."""
        for rule in rules:
            kept = copy.deepcopy((world, deed))
            expected = (tuple([(states or {}).get(house, state) for house, state in zip(LINE[0], world[0])]),
                        tuple([(flights or {}).get(way, letters) for way, letters in zip(ways_of(LINE), world[1])]))
            for again in range(2):
                self.assertEqual(repr(world_behind(rule, LINE, world, deed)), repr(expected))
            self.assertEqual((world, deed), kept)
            self.assertIs(is_world(LINE, expected), True)

    def test_find(self):
        world = with_state(WORLD, "bob", ("up", 1, 1, (), (), ("cyd",)))
        self.check(world, ("find", "bob", "ann"), {"bob": ("up", 1, 1, (), (), ("ann", "cyd"))})

    def test_lose_takes_the_letters_from_other_and_leaves_those_to_it(self):
        self.check(WORLD, ("lose", "bob", "cyd"),
                   {"bob": ("up", 4, 1, (("ann", 2, 1, "ann"), ("cyd", 4, None, None)), (("bob", 1),), ("ann",))},
                   {("cyd", "bob"): (), ("bob", "ann"): (NOTE, ("broken", (("cyd", 4),)))})
        world = with_letters(WORLD, "bob", "cyd", (ASK, NOTE))
        self.check(world, ("lose", "cyd", "bob"),
                   {"cyd": ("up", 4, 0, (("ann", 2, None, None), ("bob", 6, None, None)), (("ann", 2),), ())},
                   {("bob", "cyd"): ()})

    def test_lose_without_rows_by_it_sends_nothing(self):
        world = with_state(WORLD, "bob", ("up", 4, 1, (), (), ("ann", "cyd")))
        self.check(world, ("lose", "bob", "ann"), {"bob": ("up", 4, 1, (), (), ("cyd",))}, {("ann", "bob"): ()})

    def test_ask(self):
        letter = ("ask", "bob", 2, "cyd", 3, (5, 0))
        self.check(WORLD, ("ask", "bob", "cyd"), {"bob": ("up", 5, 2, BOB[3], (("bob", 1), ("bob", 2)), BOB[5])},
                   {("bob", "ann"): (NOTE, letter), ("bob", "cyd"): (letter,)})

    def test_ask_to_a_house_that_is_down(self):
        letter = ("ask", "ann", 3, "cyd", 3, (3, 0))
        self.check(WITHOUT_BOB, ("ask", "ann", "cyd"), {"ann": ("up", 3, 3, ANN[3], ANN[4] + (("ann", 3),), ANN[5])},
                   {("ann", "bob"): (ASK, NOTE, letter)})

    def test_fail(self):
        letter = ("broken", (("ann", 3),))
        self.check(WORLD, ("fail", "bob", "ann"),
                   {"bob": ("up", 4, 1, (("ann", 3, None, None), BOB[3][1]), BOB[4], BOB[5])},
                   {("bob", "ann"): (NOTE, letter), ("bob", "cyd"): (letter,)})

    def test_note(self):
        letter = ("note", "ann", (2, 1))
        self.check(WORLD, ("note", "bob", "ann"), {}, {("bob", "ann"): (NOTE, letter), ("bob", "cyd"): (letter,)})

    def test_take(self):
        # Bob answers ann's ask out of its row for cyd.
        answer = ("answer", "ann", "cyd", (3, 1))
        self.check(WORLD, ("take", "bob", "ann", 0),
                   {"bob": BOB[:4] + ((("ann", 2), ("bob", 1)), BOB[5])},
                   {("ann", "bob"): (NOTE,), ("bob", "ann"): (NOTE, answer)})
        self.check(WORLD, ("take", "bob", "ann", 1), {}, {("ann", "bob"): (ASK,)})

    def test_take_of_the_first_the_middle_and_the_last(self):
        letters = (BROKEN, NOTE, BROKEN)
        for place in range(3):
            self.check(WORLD, ("take", "bob", "cyd", place), {},
                       {("cyd", "bob"): letters[:place] + letters[place + 1:]})

    def test_take_from_one_that_is_no_tie(self):
        world = with_state(WORLD, "bob", FRESH)
        self.check(world, ("take", "bob", "ann", 0), {}, {("ann", "bob"): (NOTE,)})

    def test_take_sends_on_to_a_house_that_is_down(self):
        down = ("down", 0, 0, ())
        world = with_state(with_state(WORLD, "bob", ("up", 0, 0, (), (), ("ann", "cyd"))), "cyd", down)
        self.check(world, ("take", "bob", "ann", 0),
                   {"bob": ("up", 0, 0, (("ann", 2, 1, "ann"),), (("ann", 2),), ("ann", "cyd"))},
                   {("ann", "bob"): (NOTE,), ("bob", "cyd"): (("ask", "ann", 2, "cyd", 0, (2, 1)),)})

    def test_drop(self):
        letters = (BROKEN, NOTE, BROKEN)
        for world in (WORLD, WITHOUT_BOB):
            self.check(world, ("drop", "bob", "ann", 1), {}, {("ann", "bob"): (ASK,)})
            for place in range(3):
                self.check(world, ("drop", "bob", "cyd", place), {},
                           {("cyd", "bob"): letters[:place] + letters[place + 1:]})

    def test_twice(self):
        for world in (WORLD, WITHOUT_BOB):
            self.check(world, ("twice", "bob", "ann", 0), {}, {("ann", "bob"): (ASK, NOTE, ASK)})
            self.check(world, ("twice", "bob", "cyd", 1), {}, {("cyd", "bob"): (BROKEN, NOTE, BROKEN, NOTE)})

    def test_stop(self):
        self.check(WORLD, ("stop", "cyd"), {"cyd": ("down", 4, 0, (("ann", 2), ("bob", 6)))})
        self.check(WORLD, ("stop", "bob"), {"bob": ("down", 4, 1, (("ann", 3), ("cyd", 4)))},
                   {("ann", "bob"): (), ("cyd", "bob"): ()})
        self.check(fresh_world(LINE), ("stop", "ann"), {"ann": ("down", 0, 0, ())})

    def test_stop_with_sixty_figures(self):
        table = (("ann", BIG, None, None), ("bob", BIG, BIG, "bob"))
        self.check(with_state(WORLD, "cyd", ("up", BIG, BIG, table, (("cyd", BIG),), ("bob",))), ("stop", "cyd"),
                   {"cyd": ("down", BIG, BIG, (("ann", BIG), ("bob", BIG + 1)))})

    def test_up(self):
        world = ((FRESH, DOWN, FRESH), ((ASK,), (), (), (BROKEN, NOTE)))
        kept = ("up", 6, 3, (("ann", 7, None, None), ("cyd", 4, None, None)), (), ())
        self.check(world, ("up", "bob"), {"bob": kept}, rules=("kept",))
        self.check(world, ("up", "bob"), {"bob": FRESH}, rules=("wait", "bare"))

    def test_up_with_letters_from_it_and_ties_to_it(self):
        kept = ("up", 6, 3, (("ann", 7, None, None), ("cyd", 4, None, None)), (), ())
        self.check(WITHOUT_BOB, ("up", "bob"), {"bob": kept}, rules=("kept",))
        self.check(WITHOUT_BOB, ("up", "bob"), {"bob": FRESH}, rules=("bare",))


class AllTogether(unittest.TestCase):
    def test_as_it_is_told_once_more_in_each_world_of_drawn_runs(self):
        seen = set()
        for at, rule in enumerate(RULES * 4):
            net = (TWO, LINE, SQUARE, FULL)[at % 4]
            run = drawn_run(random.Random(at), rule, net, 40)
            world = fresh_world(net)
            for deed in run[2]:
                for other in deeds_in(net, world):
                    why = why_not(rule, net, world, other)
                    self.assertEqual(why, WorldTold(rule, net, world).why(other))
                    seen.add((other[0], why))
                behind = WorldTold(rule, net, world).do(deed)
                world = world_behind(rule, net, world, deed)
                self.assertEqual(repr(world), repr(behind))
                self.assertIs(is_world(net, world), True)
        # Each word was done, and refused by each why but "kind" that there is for it.
        for word, whys in (("find", ("tie", "down")), ("lose", ("tie", "down")), ("ask", ("down",)),
                           ("fail", ("row", "down")), ("note", ("row", "down")), ("take", ("letter", "down")),
                           ("drop", ("letter",)), ("twice", ("letter",)), ("stop", ("down",)), ("up", ("up", "wait"))):
            self.assertEqual({why for other, why in seen if other == word}, {None, *whys})

    def test_a_tie_heard_from_one_side_lets_letters_go_all_the_same(self):
        world = fresh_world(TWO)
        for deed in (("find", "a", "b"), ("ask", "a", "b"), ("take", "b", "a", 0)):
            world = world_behind("kept", TWO, world, deed)
        self.assertEqual(state_of(TWO, world, "b"), FRESH)
        self.assertEqual(flying(TWO, world, "a", "b"), ())


if __name__ == "__main__":
    unittest.main()
