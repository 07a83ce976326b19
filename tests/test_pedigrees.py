import copy
import random
import unittest

from askedways.pedigrees import is_pedigree, pedigree
from askedways.runs import knew, run_of
from kinds import BIG, FULL, HOUSES, LINE, SQUARE, TWO, WEIGHTS, changed_at, drawn_run, odd, other_kinds
from telling import pedigrees_told

TIED = (("find", "ann", "bob"), ("find", "bob", "ann"), ("find", "bob", "cyd"), ("find", "cyd", "bob"))
FOUND = TIED + (("ask", "ann", "cyd"), ("take", "bob", "ann", 0), ("take", "cyd", "bob", 0), ("take", "bob", "cyd", 0),
                ("take", "ann", "bob", 0))
ANNS = [("ann", 9, 1, 2), ("bob", 8, 1, 1), ("cyd", 7, 1, 0)]
BOBS = [("bob", 8, 1, 1), ("cyd", 7, 1, 0)]
CYDS = [("cyd", 7, 1, 2), ("bob", 6, 1, 1), ("ann", 5, 1, 0)]
ROW = (HOUSES, (("ann", "bob"), ("bob", "cyd"), ("cyd", "dan"), ("dan", "eve")))


class Pedigrees(unittest.TestCase):
    def check(self, deeds, house, wanted, moment, told, rule="kept", net=LINE):
        run = run_of(rule, net, deeds)
        kept = copy.deepcopy(run)
        for again in range(2):
            answer = pedigree(run, house, wanted, moment)
            self.assertEqual(repr(answer), repr(told))
            self.assertIs(is_pedigree(run, house, wanted, moment, answer), told is not None)
            if told is not None:
                # The list is the asker's own.
                answer.append(answer[0])
                answer[0] = None
        self.assertEqual(run, kept)


class NoneThere(Pedigrees):
    def test_where_nothing_was_known(self):
        for moment in range(9):
            self.check(FOUND, "ann", "cyd", moment, None)
            self.check(FOUND, "ann", "bob", moment, None)
        for rule in ("kept", "wait", "bare"):
            self.check((), "a", "b", 0, None, rule=rule, net=TWO)

    def test_where_the_row_was_broken(self):
        failed = FOUND + (("fail", "bob", "cyd"), ("take", "ann", "bob", 0))
        self.check(failed, "bob", "cyd", 9, BOBS)
        self.check(failed, "bob", "cyd", 10, None)
        self.check(failed, "ann", "cyd", 10, ANNS)
        self.check(failed, "ann", "cyd", 11, None)
        self.check(FOUND + (("lose", "ann", "bob"),), "ann", "cyd", 10, None)

    def test_where_the_house_was_down(self):
        for rule in ("kept", "wait", "bare"):
            self.check(FOUND + (("stop", "ann"),), "ann", "cyd", 9, ANNS, rule=rule)
            self.check(FOUND + (("stop", "ann"),), "ann", "cyd", 10, None, rule=rule)

    def test_where_the_house_came_up_anew(self):
        for rule in ("kept", "bare"):
            self.check(FOUND + (("stop", "ann"), ("up", "ann")), "ann", "cyd", 11, None, rule=rule)
            self.check(FOUND + (("stop", "ann"), ("up", "ann")), "ann", "cyd", 9, ANNS, rule=rule)

    def test_nothing_is_one_then(self):
        run = run_of("kept", LINE, FOUND + (("stop", "ann"),))
        for thing in [*other_kinds(), None, ANNS, [], [("ann", 10, 1, 2)]]:
            self.assertIs(is_pedigree(run, "ann", "cyd", 10, thing), False)
            self.assertIs(is_pedigree(run, "ann", "cyd", 0, thing), False)


class Learnt(Pedigrees):
    def test_of_the_wanted_house_itself_by_an_ask(self):
        for moment in range(6, 10):
            self.check(FOUND, "bob", "ann", moment, [("bob", 6, 1, 1), ("ann", 5, 1, 0)])

    def test_of_the_wanted_house_itself_by_an_answer(self):
        self.check(FOUND, "bob", "cyd", 8, BOBS)
        self.check(FOUND, "bob", "cyd", 9, BOBS)

    def test_over_one_house(self):
        for moment in range(7, 10):
            self.check(FOUND, "cyd", "ann", moment, CYDS)
        self.check(FOUND, "ann", "cyd", 9, ANNS)

    def test_over_several_houses_back_and_forth(self):
        deeds = [("find", one, other) for pair in ROW[1] for one, other in (pair, pair[::-1])]
        there = [("take", other, one, 0) for one, other in ROW[1]]
        back = [("take", one, other, 0) for one, other in reversed(ROW[1])]
        deeds += [("ask", "ann", "eve")] + there + back
        self.check(deeds, "eve", "ann", 13,
                   [("eve", 13, 1, 4), ("dan", 12, 1, 3), ("cyd", 11, 1, 2), ("bob", 10, 1, 1), ("ann", 9, 1, 0)], net=ROW)
        told = [("ann", 17, 1, 4), ("bob", 16, 1, 3), ("cyd", 15, 1, 2), ("dan", 14, 1, 1), ("eve", 13, 1, 0)]
        self.check(deeds, "ann", "eve", 17, told, net=ROW)
        self.check(deeds, "cyd", "eve", 17, [("cyd", 15, 1, 2)] + told[3:], net=ROW)

    def test_by_a_note(self):
        # Bob's note of ann lies for cyd, who lets the ask lie.
        deeds = FOUND[:6] + (("note", "bob", "ann"), ("take", "cyd", "bob", 1))
        self.check(deeds, "cyd", "ann", 8, [("cyd", 8, 1, 2), ("bob", 7, 1, 1), ("ann", 5, 1, 0)])

    def test_sent_long_behind_it_was_learnt(self):
        deeds = FOUND[:8] + (("ask", "cyd", "bob"), ("drop", "ann", "bob", 0), ("note", "bob", "cyd"), ("take", "ann", "bob", 0))
        self.check(deeds, "ann", "cyd", 12, [("ann", 12, 1, 2), ("bob", 11, 1, 1), ("cyd", 7, 1, 0)])

    def test_taken_long_behind_it_was_sent(self):
        # Meanwhile its sender learns anew: the claim is the older one.
        deeds = FOUND[:8] + (("ask", "cyd", "bob"), ("take", "bob", "cyd", 0), ("take", "ann", "bob", 0))
        self.check(deeds, "ann", "cyd", 11, [("ann", 11, 1, 2), ("bob", 8, 1, 1), ("cyd", 7, 1, 0)])
        self.check(deeds, "bob", "cyd", 11, [("bob", 10, 2, 1), ("cyd", 9, 2, 0)])
        self.check(deeds, "bob", "cyd", 9, BOBS)

    def test_numbers_above_one(self):
        deeds = TIED + (("ask", "ann", "cyd"), ("ask", "ann", "cyd"), ("take", "bob", "ann", 1))
        self.check(deeds, "bob", "ann", 7, [("bob", 7, 2, 1), ("ann", 6, 2, 0)])


class There(Pedigrees):
    ASKED = TIED + (("ask", "ann", "cyd"), ("ask", "bob", "cyd"), ("twice", "bob", "ann", 0))

    def test_twice_the_first_one_taken(self):
        self.check(self.ASKED + (("take", "bob", "ann", 0),), "bob", "ann", 8, [("bob", 8, 1, 1), ("ann", 5, 1, 0)])

    def test_twice_the_second_one_taken(self):
        self.check(self.ASKED + (("take", "bob", "ann", 1),), "bob", "ann", 8, [("bob", 8, 1, 1), ("ann", 5, 1, 0)])
        # The one that it is of is gone by then.
        self.check(self.ASKED + (("drop", "bob", "ann", 0), ("take", "bob", "ann", 0)), "bob", "ann", 9,
                   [("bob", 9, 1, 1), ("ann", 5, 1, 0)])

    def test_doubled_once_more(self):
        deeds = self.ASKED + (("drop", "bob", "ann", 0), ("twice", "bob", "ann", 0), ("drop", "bob", "ann", 0),
                              ("take", "bob", "ann", 0))
        self.check(deeds, "bob", "ann", 11, [("bob", 11, 1, 1), ("ann", 5, 1, 0)])

    def test_doubled_among_others(self):
        # Asks of two moments lie there; the second is doubled, the first one gone.
        deeds = TIED + (("ask", "ann", "cyd"), ("ask", "ann", "cyd"), ("twice", "bob", "ann", 1), ("drop", "bob", "ann", 0))
        self.check(deeds + (("take", "bob", "ann", 1),), "bob", "ann", 9, [("bob", 9, 2, 1), ("ann", 6, 2, 0)])
        deeds = TIED + (("ask", "ann", "cyd"), ("drop", "bob", "ann", 0), ("ask", "ann", "cyd"), ("ask", "bob", "cyd"),
                        ("twice", "bob", "ann", 0), ("take", "bob", "ann", 1))
        self.check(deeds, "bob", "ann", 10, [("bob", 10, 2, 1), ("ann", 7, 2, 0)])

    def test_doubled_behind_others_that_the_same_deed_took_away(self):
        deeds = TIED + (("ask", "ann", "cyd"), ("take", "bob", "ann", 0), ("ask", "ann", "bob"), ("twice", "bob", "ann", 0),
                        ("lose", "bob", "ann"), ("find", "bob", "ann"), ("ask", "ann", "bob"), ("twice", "bob", "ann", 0),
                        ("take", "bob", "ann", 1))
        self.check(deeds, "bob", "ann", 13, [("bob", 13, 3, 1), ("ann", 11, 3, 0)])

    def test_overtaken(self):
        deeds = TIED + (("ask", "ann", "cyd"), ("ask", "ann", "cyd"), ("take", "bob", "ann", 1), ("take", "bob", "ann", 0),
                        ("take", "cyd", "bob", 1))
        # The older ask, taken later, changed nothing, and goes on with what bob knew then.
        self.check(deeds, "bob", "ann", 9, [("bob", 7, 2, 1), ("ann", 6, 2, 0)])
        self.check(deeds, "cyd", "ann", 9, [("cyd", 9, 2, 2), ("bob", 8, 2, 1), ("ann", 6, 2, 0)])


class Anew(Pedigrees):
    def test_learnt_broken_and_learnt_anew(self):
        deeds = FOUND + (("fail", "bob", "cyd"), ("ask", "bob", "cyd"), ("take", "cyd", "bob", 1), ("take", "bob", "cyd", 0))
        self.check(deeds, "bob", "cyd", 9, BOBS)
        for moment in (10, 11, 12):
            self.check(deeds, "bob", "cyd", moment, None)
        self.check(deeds, "bob", "cyd", 13, [("bob", 13, 2, 1), ("cyd", 12, 2, 0)])
        # Ann's is the older one still.
        self.check(deeds, "ann", "cyd", 13, ANNS)

    def test_a_letter_that_changed_nothing_between(self):
        deeds = FOUND + (("note", "bob", "cyd"), ("take", "ann", "bob", 0))
        self.check(deeds, "ann", "cyd", 11, ANNS)
        self.check(deeds, "bob", "ann", 11, [("bob", 6, 1, 1), ("ann", 5, 1, 0)])

    def test_a_moment_in_the_middle(self):
        deeds = FOUND + (("ask", "cyd", "bob"), ("take", "bob", "cyd", 0), ("note", "bob", "cyd"), ("take", "ann", "bob", 0))
        for moment in (9, 10, 11, 12):
            self.check(deeds, "ann", "cyd", moment, ANNS)
        self.check(deeds, "ann", "cyd", 13, [("ann", 13, 2, 2), ("bob", 12, 2, 1), ("cyd", 10, 2, 0)])

    def test_of_a_house_that_came_up_anew(self):
        up = FOUND + (("stop", "bob"), ("up", "bob"), ("find", "bob", "cyd"), ("ask", "bob", "cyd"), ("take", "cyd", "bob", 0),
                      ("take", "bob", "cyd", 0))
        self.check(up, "bob", "cyd", 15, [("bob", 15, 2, 1), ("cyd", 14, 2, 0)])
        self.check(up, "bob", "cyd", 15, [("bob", 15, 2, 1), ("cyd", 14, 2, 0)], rule="bare")

    def test_a_sender_that_is_down_by_now(self):
        deeds = FOUND[:8] + (("stop", "bob"), ("take", "ann", "bob", 0))
        told = [("ann", 10, 1, 2), ("bob", 8, 1, 1), ("cyd", 7, 1, 0)]
        for rule in ("kept", "wait", "bare"):
            self.check(deeds, "ann", "cyd", 10, told, rule=rule)
        self.check(deeds + (("up", "bob"),), "ann", "cyd", 11, told, rule="bare")


class IsPedigree(unittest.TestCase):
    RUN = run_of("kept", LINE, FOUND + (("note", "bob", "cyd"),))

    def check(self, answer, *things, house="ann", wanted="cyd", moment=9):
        for thing in things:
            kept = copy.deepcopy(thing)
            self.assertIs(is_pedigree(self.RUN, house, wanted, moment, thing), answer, thing)
            self.assertEqual(repr(thing), repr(kept))

    def test_of_the_told_one(self):
        self.check(True, ANNS, list(ANNS), [tuple(part) for part in ANNS])
        self.check(True, ANNS, moment=10)

    def test_with_one_thing_otherwise_at_each_place(self):
        for at, part in enumerate(ANNS):
            for place, was in enumerate(part):
                for new in odd(was) + ["ann", "bob", "cyd", 0, 1, 2, 3, 7, 8, 9, 10, BIG]:
                    if new is not was and (new != was or new is True):
                        self.check(False, ANNS[:at] + [part[:place] + (new,) + part[place + 1:]] + ANNS[at + 1:])
            for new in odd(part) + [list(part), part[:3], part + (0,), part[::-1]]:
                self.check(False, ANNS[:at] + [new] + ANNS[at + 1:])

    def test_truths_for_numbers(self):
        self.check(False, [("ann", 9, True, 2), ("bob", 8, 1, 1), ("cyd", 7, 1, 0)])
        self.check(False, [("ann", 9, 1, 2), ("bob", 8, 1, True), ("cyd", 7, 1, 0)])
        self.check(False, [("ann", 9, 1, 2), ("bob", 8, 1, 1), ("cyd", 7, 1, False)])

    def test_with_one_left_out_or_twice_or_otherwise_ordered(self):
        for at, part in enumerate(ANNS):
            self.check(False, ANNS[:at] + ANNS[at + 1:], ANNS[:at] + [part] + ANNS[at:], ANNS[at:] + ANNS[:at] if at else None)
        self.check(False, ANNS[::-1], [], ANNS + ANNS, ANNS + [None], [None] + ANNS)

    def test_of_another_house_wanted_one_or_moment(self):
        self.check(False, ANNS, house="bob")
        self.check(False, ANNS, house="cyd")
        self.check(False, ANNS, wanted="bob")
        self.check(False, ANNS, *[ANNS[1:], BOBS, CYDS], moment=8)
        self.check(False, BOBS, CYDS)
        self.check(True, BOBS, house="bob")
        self.check(False, BOBS, house="bob", wanted="ann")

    def test_lists_and_tuples_otherwise(self):
        self.check(False, tuple(ANNS), [list(part) for part in ANNS], tuple([list(part) for part in ANNS]), [ANNS], (ANNS,),
                   {"a": ANNS}, dict(enumerate(ANNS)))

    def test_other_kinds(self):
        self.check(False, *other_kinds())
        for thing in changed_at(tuple(ANNS), odd):
            self.check(False, thing)


class AllTogether(unittest.TestCase):
    def test_as_they_are_told_once_more_over_drawn_runs(self):
        often = dict(WEIGHTS, twice=6, drop=2, note=4, stop=2, lose=3)
        # Where ties come first and stay, labels are learnt over more houses.
        far = {"find": 90, "ask": 2, "take": 40, "twice": 3, "drop": 1, "note": 1, "fail": 1}
        lengths = set()
        for at in range(40):
            net, rule = (TWO, LINE, SQUARE, FULL, ROW)[at % 5], ("kept", "wait", "bare")[at % 3]
            dice = random.Random(at)
            run = drawn_run(dice, rule, net, 60, far if net == ROW else often)
            moments = pedigrees_told(run)
            for again in range(15):
                moment = dice.choice([60, 60, dice.randint(0, 60)])
                house, wanted = dice.sample(net[0], 2)
                told = moments[moment].get((house, wanted))
                self.assertEqual(repr(pedigree(run, house, wanted, moment)), repr(told))
                self.assertIs(is_pedigree(run, house, wanted, moment, told), told is not None)
                if told is not None:
                    self.walk(run, house, wanted, moment, told)
                    lengths.add(len(told))
                for other in (60, 30):
                    there = moments[other].get((wanted, house))
                    if there is not None and there != told:
                        self.assertIs(is_pedigree(run, house, wanted, moment, there), False)
        self.assertLessEqual({2, 3, 4, 5}, lengths)

    def walk(self, run, house, wanted, moment, told):
        """What point 22 says of a pedigree, step by step."""
        self.assertEqual((told[0][0], told[-1][0], told[-1][3]), (house, wanted, 0))
        self.assertLessEqual(told[0][1], moment)
        self.assertEqual(knew(run, wanted, told[-1][1])[1], told[-1][2])
        for one, other in zip(told, told[1:]):
            self.assertGreater(one[1], other[1])
            self.assertEqual((one[2], one[3]), (other[2], other[3] + 1))
            self.assertIn(one[0], knew(run, other[0], other[1])[5])


if __name__ == "__main__":
    unittest.main()
