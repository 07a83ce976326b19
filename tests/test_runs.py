import copy
import random
import unittest

from askedways.deeds import world_behind
from askedways.errors import NoRun
from askedways.runs import end_of, knew, run_of, worlds_of
from askedways.worlds import fresh_world, state_of
from kinds import FULL, LINE, SQUARE, TWO, drawn_run, other_kinds

RULES = ("kept", "wait", "bare")
TIED = (("find", "ann", "bob"), ("find", "bob", "ann"), ("find", "bob", "cyd"), ("find", "cyd", "bob"))
# Ann asks for cyd and is answered; bob stops and comes up.
FOUND = TIED + (("ask", "ann", "cyd"), ("take", "bob", "ann", 0), ("take", "cyd", "bob", 0), ("take", "bob", "cyd", 0),
                ("take", "ann", "bob", 0))
STOPPED = FOUND + (("stop", "bob"),)
# Each can be done behind the one ahead of it, however often.
SIXTY = (("find", "ann", "bob"), ("lose", "ann", "bob")) * 30


class RunOf(unittest.TestCase):
    def check(self, deeds, rule="kept", net=LINE):
        for given in (deeds, list(deeds)):
            kept = copy.deepcopy(given)
            self.assertEqual(repr(run_of(rule, net, given)), repr((rule, net, deeds)))
            self.assertEqual(given, kept)

    def refuse(self, at, why, deeds, rule="kept", net=LINE):
        for given in (tuple(deeds), list(deeds)):
            kept = copy.deepcopy(given)
            with self.assertRaises(NoRun) as caught:
                run_of(rule, net, given)
            self.assertEqual(repr((caught.exception.at, caught.exception.why)), repr((at, why)))
            self.assertEqual(given, kept)

    def test_no_deeds(self):
        for rule in RULES:
            for net in (TWO, LINE, FULL):
                self.check((), rule, net)

    def test_some_deeds(self):
        for rule in RULES:
            for size in range(len(STOPPED) + 1):
                self.check(STOPPED[:size], rule)

    def test_sixty(self):
        for rule in RULES:
            self.check(SIXTY, rule)
            self.check(SIXTY[:59], rule)

    def test_a_sixty_first_whatever_it_is(self):
        for deed in [SIXTY[0], ("lose", "ann", "bob"), ("stop", "zoe"), *other_kinds()]:
            self.refuse(60, "many", SIXTY + (deed,))
            self.refuse(60, "many", SIXTY + (deed, None, deed))

    def test_one_ahead_of_the_sixty_first_goes_first(self):
        self.refuse(59, "tie", SIXTY[:59] + (SIXTY[0],) * 2)
        self.refuse(0, "kind", (None,) + SIXTY)

    def test_the_first_the_middle_and_the_last_that_cannot_be_done(self):
        for deed, why in ((None, "kind"), (["stop", "ann"], "kind"), (("up", "ann"), "up"), (("find", "ann", "cyd"), "kind"),
                          (("take", "cyd", "bob", 9), "letter"), (("fail", "cyd", "bob"), "row"),
                          (("note", "cyd", "bob"), "row")):
            for at in range(len(TIED) + 1):
                self.refuse(at, why, TIED[:at] + (deed,) + TIED[at:])
                # The first one that can't be done is told, whatever stands behind.
                self.refuse(at, why, TIED[:at] + (deed, None, {}))

    def test_each_why(self):
        self.refuse(10, "down", STOPPED + (("stop", "bob"),))
        self.refuse(10, "tie", STOPPED + (("find", "ann", "bob"),))
        self.refuse(10, "letter", STOPPED + (("drop", "ann", "bob", 0),))
        self.refuse(10, "row", STOPPED + (("fail", "cyd", "bob"),))
        self.refuse(10, "wait", STOPPED + (("up", "bob"),), rule="wait")
        for rule in ("kept", "bare"):
            self.check(STOPPED + (("up", "bob"),), rule)

    def test_other_kinds_as_deeds(self):
        for thing in other_kinds():
            self.refuse(0, "kind", [thing])
            self.refuse(2, "kind", list(TIED[:2]) + [thing])

    def test_a_list_handed_in_may_be_changed_later(self):
        deeds = list(TIED)
        run = run_of("kept", LINE, deeds)
        deeds[0] = None
        deeds.append(None)
        self.assertEqual(run, ("kept", LINE, TIED))

    def test_what_was_told_may_be_handed_in_again(self):
        run = run_of("wait", LINE, STOPPED)
        self.assertEqual(run_of(run[0], run[1], run[2]), run)


class WorldsOf(unittest.TestCase):
    def runs(self):
        yield from [(rule, LINE, STOPPED) for rule in RULES]
        for at, rule in enumerate(RULES * 3):
            yield drawn_run(random.Random(at), rule, (TWO, SQUARE, FULL)[at // 3], 40)

    def test_the_fresh_one_and_that_behind_each_deed(self):
        for run in self.runs():
            rule, net, deeds = run
            kept = copy.deepcopy(run)
            worlds = worlds_of(run)
            self.assertIs(type(worlds), list)
            self.assertEqual(len(worlds), len(deeds) + 1)
            self.assertEqual(worlds[0], fresh_world(net))
            for ahead, deed, behind in zip(worlds, deeds, worlds[1:]):
                self.assertEqual(repr(world_behind(rule, net, ahead, deed)), repr(behind))
            self.assertEqual(run, kept)

    def test_of_no_deeds(self):
        self.assertEqual(worlds_of(("kept", LINE, ())), [fresh_world(LINE)])
        self.assertEqual(end_of(("kept", LINE, ())), fresh_world(LINE))

    def test_of_sixty(self):
        worlds = worlds_of(("kept", LINE, SIXTY))
        self.assertEqual(len(worlds), 61)
        self.assertEqual(worlds[60], fresh_world(LINE))
        self.assertNotEqual(worlds[59], worlds[60])

    def test_the_list_is_the_askers_own(self):
        run = ("kept", LINE, FOUND)
        told = worlds_of(run)
        kept = list(told)
        told[0] = None
        told.clear()
        self.assertEqual(worlds_of(run), kept)
        self.assertEqual(end_of(run), kept[-1])

    def test_end_of_is_the_last_of_them(self):
        for run in self.runs():
            self.assertEqual(repr(end_of(run)), repr(worlds_of(run)[-1]))

    def test_what_comes_of_an_asking(self):
        worlds = worlds_of(("kept", LINE, FOUND))
        self.assertEqual(worlds[-1], ((
            ("up", 1, 1, (("cyd", 1, 2, "bob"),), (("ann", 1),), ("bob",)),
            ("up", 0, 0, (("ann", 1, 1, "ann"), ("cyd", 1, 1, "cyd")), (("ann", 1),), ("ann", "cyd")),
            ("up", 1, 0, (("ann", 1, 2, "bob"),), (("ann", 1),), ("bob",))), ((), (), (), ())))


class Knew(unittest.TestCase):
    def test_at_each_moment(self):
        for rule in RULES:
            run = (rule, LINE, STOPPED)
            for moment, world in enumerate(worlds_of(run)):
                for house in LINE[0]:
                    self.assertEqual(repr(knew(run, house, moment)), repr(state_of(LINE, world, house)))

    def test_up_and_down_at_the_beginning_some_deeds_and_all(self):
        run = ("kept", LINE, STOPPED)
        fresh = ("up", 0, 0, (), (), ())
        self.assertEqual(knew(run, "bob", 0), fresh)
        self.assertEqual(knew(run, "ann", 1), ("up", 0, 0, (), (), ("bob",)))
        self.assertEqual(knew(run, "ann", 5), ("up", 1, 1, (), (("ann", 1),), ("bob",)))
        self.assertEqual(knew(run, "bob", 9)[0], "up")
        self.assertEqual(knew(run, "bob", 10), ("down", 0, 0, (("ann", 2), ("cyd", 2))))
        self.assertEqual(knew(("kept", LINE, ()), "cyd", 0), fresh)


if __name__ == "__main__":
    unittest.main()
