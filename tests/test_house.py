import copy
import random
import unittest

from askedways.doing import asking, failing, finding, losing, noting
from askedways.errors import NoDeed
from askedways.field import Field
from askedways.house import House
from askedways.runs import worlds_of
from askedways.states import fresh_state
from askedways.taking import takes_letter
from askedways.worlds import flying, state_of
from kinds import BIG, FULL, LINE, SQUARE, TWO, drawn_run, other_kinds

TABLE = (("ann", 2, 1, "ann"), ("cyd", 3, None, None), ("eve", 5, 2, "cyd"))
START = ("up", 4, 2, TABLE, (("ann", 1), ("bob", 2)), ("ann", "cyd"))
LETTERS = (("ask", "ann", 2, "bob", 0, (3, 0)), ("ask", "ann", 3, "dan", 1, (3, 0)), ("answer", "ann", "dan", (2, 1)),
           ("broken", (("ann", 9),)), ("note", "dan", (6, 1)))


class Doing(unittest.TestCase):
    """Bob, in FULL, where all others are its neighbours."""

    def do(self, house, told, expected):
        """That a house told this tells these letters, as the function does, and has that state then."""
        state, sent = expected
        self.assertEqual(repr(told), repr(sent))
        self.assertEqual(repr(house.state()), repr(state))
        told.append("changed")
        self.assertEqual(repr(house.state()), repr(state))
        return state

    def test_each_by_itself(self):
        for letter in LETTERS:
            for other in ("ann", "cyd", "dan"):
                house = House(FULL, "bob", start=START)
                self.do(house, house.take(other, letter), takes_letter(START, "bob", other, letter))
        house = House(FULL, "bob", start=START)
        self.do(house, house.find("dan"), finding(START, "dan"))
        for other in ("ann", "cyd"):
            house = House(FULL, "bob", start=START)
            self.do(house, house.lose(other), losing(START, other))
        for wanted in ("ann", "cyd", "dan", "eve"):
            house = House(FULL, "bob", start=START)
            self.do(house, house.ask(wanted), asking(START, "bob", wanted))
        for wanted in ("ann", "eve"):
            house = House(FULL, "bob", start=START)
            self.do(house, house.fail(wanted), failing(START, wanted))
            house = House(FULL, "bob", start=START)
            self.do(house, house.note(wanted), noting(START, wanted))

    def test_several_in_a_row(self):
        house = House(FULL, "bob")
        state = fresh_state()
        state = self.do(house, house.find("cyd"), finding(state, "cyd"))
        state = self.do(house, house.find("ann"), finding(state, "ann"))
        for letter in LETTERS + LETTERS:
            state = self.do(house, house.take("ann", letter), takes_letter(state, "bob", "ann", letter))
            state = self.do(house, house.ask("eve"), asking(state, "bob", "eve"))
            state = self.do(house, house.note("dan"), noting(state, "dan")) if house.has("dan") else state
        state = self.do(house, house.fail("dan"), failing(state, "dan"))
        state = self.do(house, house.lose("ann"), losing(state, "ann"))
        self.assertEqual(state[5], ("cyd",))

    def test_find_sends_the_empty_list(self):
        self.assertEqual(repr(House(LINE, "bob").find("ann")), "[]")

    def test_a_letter_from_a_neighbour_that_is_no_tie(self):
        house = House(LINE, "bob")
        self.assertEqual(house.take("ann", ("note", "cyd", (2, 1))), [])
        self.assertEqual(house.state(), fresh_state())

    def test_houses_go_along_with_runs(self):
        # A field of houses that do what their rows tell, and the plain telling, are alike.
        for at in range(6):
            net = (LINE, SQUARE, FULL)[at % 3]
            run = drawn_run(random.Random(at), "kept", net, 60)
            houses = {name: House(net, name) for name in net[0]}
            worlds = worlds_of(run)
            for deed, ahead, behind in zip(run[2], worlds, worlds[1:]):
                word, name = deed[:2]
                if word in ("find", "lose", "ask", "fail", "note"):
                    getattr(houses[name], word)(deed[2])
                elif word == "take":
                    houses[name].take(deed[2], flying(net, ahead, deed[2], name)[deed[3]])
                elif word == "up":
                    houses[name] = House(net, name, start=state_of(net, behind, name))
                for other in net[0]:
                    if state_of(net, behind, other)[0] == "up":
                        self.assertEqual(houses[other].state(), state_of(net, behind, other))


class Refused(unittest.TestCase):
    def refuse(self, why, start, do, net=LINE):
        house = House(net, "bob", start=start)
        with self.assertRaises(NoDeed) as caught:
            do(house)
        self.assertEqual(caught.exception.why, why)
        self.assertIsNone(caught.exception.at)
        self.assertEqual(house, House(net, "bob", start=start))
        self.assertEqual(house.state(), fresh_state() if start is None else start)

    def test_kind_of_no_neighbours(self):
        for thing in ["bob", "dan", "zoe", "", *[kind for kind in other_kinds() if kind != "ann"]]:
            for start in (None, ("up", 1, 1, (("ann", 1, 1, "ann"),), (), ("ann",))):
                for letter in LETTERS[2:]:
                    self.refuse("kind", start, lambda house: house.take(thing, letter))
                self.refuse("kind", start, lambda house: house.find(thing))
                self.refuse("kind", start, lambda house: house.lose(thing))

    def test_kind_of_houses_that_are_no_neighbours(self):
        ann = House(LINE, "ann", start=("up", 1, 1, (("cyd", 1, 2, "bob"),), (), ("bob",)))
        for do in (lambda: ann.take("cyd", LETTERS[4]), lambda: ann.find("cyd"), lambda: ann.lose("cyd")):
            with self.assertRaises(NoDeed) as caught:
                do()
            self.assertEqual((caught.exception.why, caught.exception.at), ("kind", None))
        # To ask, fail and note they needn't be.
        self.assertEqual(ann.note("cyd"), [("bob", ("note", "cyd", (1, 2)))])
        self.assertEqual(ann.fail("cyd"), [("bob", ("broken", (("cyd", 2),)))])
        self.assertEqual(ann.ask("cyd"), [("bob", ("ask", "ann", 2, "cyd", 2, (2, 0)))])

    def test_kind_of_no_other_houses(self):
        for thing in ["bob", "dan", "zoe", "", *[kind for kind in other_kinds() if kind != "ann"]]:
            self.refuse("kind", None, lambda house: house.ask(thing))
            self.refuse("kind", None, lambda house: house.fail(thing))
            self.refuse("kind", None, lambda house: house.note(thing))

    def test_tie(self):
        self.refuse("tie", START, lambda house: house.find("ann"), FULL)
        self.refuse("tie", START, lambda house: house.lose("dan"), FULL)
        self.refuse("tie", None, lambda house: house.lose("ann"))

    def test_row(self):
        for wanted in ("cyd", "dan"):
            self.refuse("row", START, lambda house: house.fail(wanted), FULL)
            self.refuse("row", START, lambda house: house.note(wanted), FULL)
        self.refuse("row", None, lambda house: house.fail("cyd"))

    def test_what_is_refused_leaves_it_as_it_was_among_others(self):
        house = House(FULL, "bob", start=START)
        house.find("dan")
        for again in range(2):
            with self.assertRaises(NoDeed):
                house.find("dan")
        self.assertEqual(house.state(), finding(START, "dan")[0])


class Asked(unittest.TestCase):
    def test_start(self):
        self.assertEqual(repr(House(LINE, "ann").state()), repr(fresh_state()))
        self.assertEqual(repr(House(LINE, "ann", start=None).state()), repr(fresh_state()))
        self.assertEqual(repr(House(FULL, "bob", start=START).state()), repr(START))
        big = ("up", BIG, BIG, (("eve", BIG, BIG, "ann"),), (("bob", BIG),), ("ann",))
        self.assertEqual(repr(House(FULL, "bob", start=big).state()), repr(big))

    def test_what_is_handed_in_stays(self):
        start, net = copy.deepcopy(START), copy.deepcopy(FULL)
        house = House(net, "bob", start=start)
        house.lose("ann")
        house.ask("eve")
        letter = copy.deepcopy(LETTERS[1])
        house.take("cyd", letter)
        self.assertEqual((start, net, letter), (START, FULL, LETTERS[1]))

    def test_what_is_told_is_the_askers_own(self):
        house = House(FULL, "bob", start=START)
        ahead = house.state()
        told = house.ask("eve")
        kept = list(told)
        behind = house.state()
        house.lose("ann")
        self.assertEqual(ahead, START)
        self.assertEqual(behind, asking(START, "bob", "eve")[0])
        self.assertEqual(told, kept)
        told.clear()
        self.assertEqual(house.state(), losing(behind, "ann")[0])

    def test_two_houses_go_on_by_themselves(self):
        one, other = House(FULL, "bob", start=START), House(FULL, "bob", start=START)
        one.lose("ann")
        self.assertEqual(other.state(), START)

    def test_has(self):
        house = House(FULL, "bob", start=START)
        for wanted, answer in (("ann", True), ("cyd", False), ("dan", False), ("eve", True), ("bob", False), ("zoe", False)):
            self.assertIs(house.has(wanted), answer)
        house.fail("ann")
        self.assertIs(house.has("ann"), False)
        house.take("ann", ("note", "ann", (9, 0)))
        self.assertIs(house.has("ann"), True)

    def test_has_of_whatever_it_is(self):
        house = House(FULL, "bob", start=START)
        for thing in other_kinds() + [("ann",), ["ann"], TABLE[0], START, house]:
            self.assertIs(house.has(thing), thing == "ann")

    def test_len(self):
        self.assertEqual(len(House(FULL, "bob")), 0)
        house = House(FULL, "bob", start=START)
        self.assertEqual(len(house), 2)
        house.take("ann", ("note", "dan", (1, 1)))
        self.assertEqual(len(house), 3)
        house.lose("ann")
        self.assertEqual(len(house), 1)
        self.assertEqual(len(House(FULL, "bob", start=("up", 0, 0, (("ann", 1, None, None),), (), ()))), 0)

    def test_same(self):
        self.assertTrue(House(FULL, "bob", start=START) == House(FULL, "bob", start=copy.deepcopy(START)))
        self.assertFalse(House(FULL, "bob", start=START) != House(FULL, "bob", start=START))
        self.assertTrue(House(FULL, "bob") == House(FULL, "bob", start=fresh_state()))
        # The same state come to otherwise.
        one, other = House(FULL, "bob"), House(FULL, "bob")
        for name in ("ann", "cyd", "eve"):
            one.find(name)
        for name in ("eve", "cyd", "ann"):
            other.find(name)
        one.lose("eve")
        self.assertFalse(one == other)
        other.lose("eve")
        self.assertTrue(one == other)

    def test_unlike(self):
        house = House(FULL, "bob")
        for other in (House(LINE, "bob"), House(FULL, "ann"), House(FULL, "bob", start=START), House(SQUARE, "bob"),
                      House(TWO, "a"), Field("kept", FULL)):
            self.assertFalse(house == other)
            self.assertTrue(house != other)
            self.assertFalse(other == house)
        for number in (1, 2):
            for at in (1, 2):
                parts = list(fresh_state())
                parts[at] = number
                self.assertFalse(house == House(FULL, "bob", start=tuple(parts)))
        for start in (("up", 0, 0, (), (("ann", 1),), ()), ("up", 0, 0, (), (), ("ann",)),
                      ("up", 0, 0, (("ann", 1, None, None),), (), ())):
            self.assertFalse(house == House(FULL, "bob", start=start))

    def test_things_of_other_kinds_are_not_the_same(self):
        house = House(FULL, "bob")
        for thing in other_kinds() + [house.state(), (FULL, "bob", house.state()), FULL, "bob"]:
            self.assertIs(house == thing, False)
            self.assertIs(thing == house, False)
            self.assertIs(house != thing, True)

    def test_its_methods_stand_in_the_class_itself(self):
        for name in ("__init__", "take", "find", "lose", "ask", "fail", "note", "has", "state", "__len__", "__eq__"):
            self.assertIn(name, vars(House))


if __name__ == "__main__":
    unittest.main()
