import copy
import random
import unittest

from askedways.deeds import why_not
from askedways.errors import NoBack, NoDeed, NoRun, Unknown
from askedways.field import Field
from askedways.house import House
from askedways.runs import end_of, knew, worlds_of
from askedways.worlds import fresh_world
from kinds import FULL, LINE, SQUARE, TWO, drawn_run, other_kinds

RULES = ("kept", "wait", "bare")
TIED = (("find", "ann", "bob"), ("find", "bob", "ann"), ("find", "bob", "cyd"), ("find", "cyd", "bob"))
FOUND = TIED + (("ask", "ann", "cyd"), ("take", "bob", "ann", 0), ("take", "cyd", "bob", 0), ("take", "bob", "cyd", 0),
                ("take", "ann", "bob", 0))
STOPPED = FOUND + (("stop", "bob"),)
SIXTY = (("find", "ann", "bob"), ("lose", "ann", "bob")) * 30


class FieldCase(unittest.TestCase):
    def same(self, field, rule, deeds, net=LINE):
        """That the field tells its world, run and states as the functions of runs tell those of these deeds."""
        run = (rule, net, tuple(deeds))
        self.assertEqual(repr(field.run()), repr(run))
        self.assertEqual(repr(field.world()), repr(end_of(run)))
        self.assertEqual(len(field), len(deeds))
        for house in net[0]:
            self.assertEqual(repr(field.state(house)), repr(knew(run, house, len(deeds))))

    def refuse(self, why, at, do, *given):
        with self.assertRaises(NoDeed) as caught:
            do(*given)
        self.assertEqual(repr((caught.exception.why, caught.exception.at)), repr((why, at)))


class Begun(FieldCase):
    def test_with_none(self):
        for rule in RULES:
            self.same(Field(rule, LINE), rule, ())
            self.same(Field(rule, LINE, begun=()), rule, ())
            self.same(Field(rule, LINE, begun=[]), rule, ())

    def test_with_deeds_as_a_list_and_as_a_tuple(self):
        for rule in RULES:
            for deeds in (TIED, STOPPED, SIXTY):
                self.same(Field(rule, LINE, begun=deeds), rule, deeds)
                self.same(Field(rule, LINE, begun=list(deeds)), rule, deeds)

    def test_with_ones_that_cannot_be_done(self):
        for begun, at, why in (((None,), 0, "kind"), (TIED + (("find", "bob", "ann"),), 4, "tie"),
                               (STOPPED + (("ask", "bob", "ann"), None), 10, "down"), (SIXTY + (SIXTY[0],), 60, "many"),
                               (SIXTY + (None,), 60, "many"), (TIED + (("up", "bob"),), 4, "up"),
                               (STOPPED + (("up", "bob"),), 10, "wait"), (TIED + (("take", "bob", "ann", 0),), 4, "letter"),
                               (TIED + (("fail", "bob", "ann"),), 4, "row")):
            for given in (begun, list(begun)):
                kept = copy.deepcopy(given)
                with self.assertRaises(NoRun) as caught:
                    Field("wait", LINE, begun=given)
                self.assertEqual((caught.exception.at, caught.exception.why), (at, why))
                self.assertEqual(given, kept)

    def test_with_things_of_other_kinds(self):
        for thing in other_kinds():
            with self.assertRaises(NoRun) as caught:
                Field("kept", LINE, begun=[TIED[0], thing])
            self.assertEqual((caught.exception.at, caught.exception.why), (1, "kind"))

    def test_a_list_changed_later(self):
        begun = list(TIED)
        field = Field("kept", LINE, begun=begun)
        begun.clear()
        self.same(field, "kept", TIED)
        begun.append(None)
        field.back()
        self.same(field, "kept", TIED[:-1])
        self.assertEqual(begun, [None])

    def test_it_may_be_taken_back(self):
        field = Field("kept", LINE, begun=STOPPED)
        for size in range(len(STOPPED) - 1, -1, -1):
            self.assertIsNone(field.back())
            self.same(field, "kept", STOPPED[:size])
        with self.assertRaises(NoBack):
            field.back()


class Do(FieldCase):
    def test_one_by_one(self):
        for rule in RULES:
            field = Field(rule, LINE)
            for at, deed in enumerate(STOPPED):
                self.assertIsNone(field.do(deed))
                self.same(field, rule, STOPPED[:at + 1])

    def test_drawn_runs(self):
        for at, rule in enumerate(RULES * 2):
            net = (TWO, SQUARE, FULL)[at % 3]
            run = drawn_run(random.Random(at), rule, net, 60)
            field = Field(rule, net)
            for deed, world in zip(run[2], worlds_of(run)[1:]):
                field.do(deed)
                self.assertEqual(field.world(), world)
            self.same(field, rule, run[2], net)

    def test_refused_with_each_why(self):
        field = Field("wait", LINE, begun=STOPPED)
        for deed, why in ((None, "kind"), (("find", "ann", "cyd"), "kind"), (("ask", "bob", "ann"), "down"),
                          (("up", "ann"), "up"), (("find", "ann", "bob"), "tie"), (("take", "ann", "bob", 0), "letter"),
                          (("note", "cyd", "bob"), "row"), (("up", "bob"), "wait")):
            self.refuse(why, None, field.do, deed)
            self.same(field, "wait", STOPPED)

    def test_things_of_other_kinds(self):
        field = Field("kept", LINE, begun=TIED)
        for thing in other_kinds() + [list(TIED[0]), ("take", "ann", "bob", True), (TIED[0],), [TIED[0]]]:
            self.refuse("kind", None, field.do, thing)
        self.same(field, "kept", TIED)

    def test_many_at_sixty_first_of_all(self):
        field = Field("kept", LINE, begun=SIXTY[:59])
        field.do(SIXTY[59])
        for thing in [SIXTY[0], ("lose", "ann", "bob"), ("up", "ann"), *other_kinds()]:
            self.refuse("many", None, field.do, thing)
        self.same(field, "kept", SIXTY)
        field.back()
        self.refuse("kind", None, field.do, None)
        field.do(("stop", "cyd"))
        self.same(field, "kept", SIXTY[:59] + (("stop", "cyd"),))


class DoAll(FieldCase):
    def test_of_none(self):
        for begun in ((), TIED, SIXTY):
            for none in ((), []):
                field = Field("kept", LINE, begun=begun)
                self.assertIsNone(field.do_all(none))
                self.same(field, "kept", begun)

    def test_of_several(self):
        for given in (FOUND[4:], list(FOUND[4:])):
            field = Field("kept", LINE, begun=TIED)
            self.assertIsNone(field.do_all(given))
            self.same(field, "kept", FOUND)
            self.assertEqual(tuple(given), FOUND[4:])
        field = Field("kept", LINE)
        field.do_all(SIXTY)
        self.same(field, "kept", SIXTY)

    def test_refused_at_the_first_a_middle_and_the_last_one(self):
        for thing, why in ((None, "kind"), (("up", "ann"), "up"), (("find", "bob", "bob"), "kind"),
                           (("take", "ann", "bob", 9), "letter"), (("fail", "cyd", "bob"), "row"),
                           (("find", "cyd", "bob"), "tie")):
            for at in range(6):
                given = list(FOUND[4:])
                given.insert(at, thing)
                field = Field("kept", LINE, begun=TIED)
                self.refuse(why, at, field.do_all, given)
                self.same(field, "kept", TIED)
                self.refuse(why, at, field.do_all, tuple(given))
                self.same(field, "kept", TIED)
                self.assertEqual(field, Field("kept", LINE, begun=TIED))

    def test_refused_down_and_wait(self):
        for rule in ("wait", "kept"):
            field = Field(rule, LINE, begun=FOUND)
            self.refuse("down", 1, field.do_all, (("stop", "bob"), ("ask", "bob", "ann"), None))
            self.same(field, rule, FOUND)
        field = Field("wait", LINE, begun=FOUND)
        self.refuse("wait", 1, field.do_all, [("stop", "bob"), ("up", "bob")])
        self.same(field, "wait", FOUND)

    def test_things_of_other_kinds(self):
        for thing in other_kinds():
            field = Field("kept", LINE)
            self.refuse("kind", 2, field.do_all, [TIED[0], TIED[1], thing, thing])
            self.same(field, "kept", ())

    def test_many(self):
        field = Field("kept", LINE, begun=SIXTY[:58])
        self.refuse("many", 2, field.do_all, [*SIXTY[58:], None])
        self.same(field, "kept", SIXTY[:58])
        field.do_all(SIXTY[58:])
        self.refuse("many", 0, field.do_all, [None])
        self.same(field, "kept", SIXTY)
        field = Field("kept", LINE)
        self.refuse("many", 60, field.do_all, SIXTY + SIXTY)
        self.same(field, "kept", ())

    def test_each_may_be_taken_back(self):
        field = Field("kept", LINE)
        field.do_all(TIED)
        field.back()
        self.same(field, "kept", TIED[:3])


class Back(FieldCase):
    def test_to_the_beginning_and_no_further(self):
        field = Field("kept", LINE)
        with self.assertRaises(NoBack):
            field.back()
        for deed in FOUND:
            field.do(deed)
        for size in range(len(FOUND) - 1, -1, -1):
            self.assertIsNone(field.back())
            self.same(field, "kept", FOUND[:size])
        for again in range(2):
            with self.assertRaises(NoBack):
                field.back()
            self.same(field, "kept", ())

    def test_do_behind_back(self):
        field = Field("bare", LINE, begun=STOPPED)
        field.back()
        field.do(("lose", "ann", "bob"))
        self.same(field, "bare", FOUND + (("lose", "ann", "bob"),))
        field.back()
        field.back()
        field.do_all((FOUND[-1], STOPPED[-1], ("up", "bob")))
        self.same(field, "bare", STOPPED + (("up", "bob"),))

    def test_behind_a_refusal(self):
        field = Field("kept", LINE, begun=TIED)
        self.refuse("tie", None, field.do, TIED[0])
        field.back()
        self.same(field, "kept", TIED[:3])


class Asked(FieldCase):
    def test_what_is_told_stays(self):
        field = Field("kept", LINE, begun=TIED)
        world, run, state = field.world(), field.run(), field.state("ann")
        kept = copy.deepcopy((world, run, state))
        field.do(("ask", "ann", "cyd"))
        field.back()
        field.back()
        self.assertEqual((world, run, state), kept)

    def test_unknown(self):
        field = Field("kept", LINE, begun=STOPPED)
        for thing in ["zoe", "dan", "", "Ann", *[kind for kind in other_kinds() if kind != "ann"]]:
            with self.assertRaises(Unknown) as caught:
                field.state(thing)
            self.assertEqual(repr(caught.exception.name), repr(thing if isinstance(thing, str) else None))
        self.same(field, "kept", STOPPED)

    def test_state_up_and_down(self):
        field = Field("kept", LINE, begun=STOPPED)
        self.assertEqual(field.state("bob"), ("down", 0, 0, (("ann", 2), ("cyd", 2))))
        self.assertEqual(field.state("ann"), ("up", 1, 1, (("cyd", 1, 2, "bob"),), (("ann", 1),), ("bob",)))

    def test_twin(self):
        field = Field("kept", LINE, begun=FOUND)
        twin = field.twin()
        self.assertIs(type(twin), Field)
        self.same(twin, "kept", FOUND)
        self.assertTrue(field == twin)
        twin.do(("stop", "bob"))
        self.same(field, "kept", FOUND)
        self.same(twin, "kept", STOPPED)
        field.back()
        self.same(field, "kept", FOUND[:-1])
        self.same(twin, "kept", STOPPED)
        field.do_all((FOUND[-1], ("stop", "cyd")))
        self.same(field, "kept", FOUND + (("stop", "cyd"),))
        self.same(twin, "kept", STOPPED)

    def test_twin_takes_back_all(self):
        field = Field("wait", LINE, begun=TIED)
        field.do_all(FOUND[4:])
        twin = field.twin()
        for size in range(len(FOUND) - 1, -1, -1):
            twin.back()
            self.same(twin, "wait", FOUND[:size])
        with self.assertRaises(NoBack):
            twin.back()
        self.same(field, "wait", FOUND)
        for rule in RULES:
            self.same(Field(rule, FULL).twin(), rule, (), FULL)

    def test_len(self):
        field = Field("kept", LINE)
        self.assertEqual(len(field), 0)
        field.do_all(TIED)
        self.assertEqual(len(field), 4)
        field.back()
        self.assertEqual(len(field), 3)
        self.assertEqual(len(Field("kept", LINE, begun=SIXTY)), 60)

    def test_same(self):
        field = Field("kept", LINE, begun=TIED)
        other = Field("kept", copy.deepcopy(LINE))
        self.assertFalse(field == other)
        other.do_all(list(TIED))
        self.assertTrue(field == other)
        self.assertFalse(field != other)
        other.back()
        self.assertTrue(field != other)

    def test_unlike(self):
        field = Field("kept", LINE)
        for other in (Field("wait", LINE), Field("bare", LINE), Field("kept", SQUARE), Field("kept", LINE, begun=TIED),
                      House(LINE, "ann")):
            self.assertFalse(field == other)
            self.assertTrue(field != other)
            self.assertFalse(other == field)
        # The same world, but other deeds.
        one = Field("kept", LINE, begun=TIED)
        other = Field("kept", LINE, begun=TIED[::-1])
        self.assertEqual(one.world(), other.world())
        self.assertFalse(one == other)
        self.assertFalse(Field("kept", LINE, begun=SIXTY[:2]) == Field("kept", LINE))

    def test_things_of_other_kinds_are_not_the_same(self):
        field = Field("kept", LINE)
        for thing in other_kinds() + [field.run(), field.world(), LINE, "kept"]:
            self.assertIs(field == thing, False)
            self.assertIs(thing == field, False)
            self.assertIs(field != thing, True)

    def test_its_methods_stand_in_the_class_itself(self):
        for name in ("__init__", "do", "do_all", "back", "world", "run", "state", "twin", "__len__", "__eq__"):
            self.assertIn(name, vars(Field))

    def test_its_world_tells_what_may_be_done(self):
        field = Field("kept", LINE, begun=FOUND)
        self.assertEqual(field.world()[1], fresh_world(LINE)[1])
        self.assertIsNone(why_not("kept", LINE, field.world(), ("fail", "ann", "cyd")))


if __name__ == "__main__":
    unittest.main()
