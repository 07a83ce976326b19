import copy
import random
import unittest

from askedways.errors import TooMany
from askedways.runs import end_of, run_of
from askedways.search import lets_search, ring_run
from askedways.steps import all_worlds
from askedways.ways import ring_in
from askedways.worlds import fresh_world
from kinds import FULL, LINE, SQUARE, TWO, WEIGHTS, changed_at, drawn_run, odd, other_kinds
from telling import all_worlds_told, has_ring, lets_told, search_told, steps_told, worlds_told
from test_steps import ANEW, RULES, STOPPED, TIED, drawn_doings

# By "bare": bob comes up anew and learns from ann, who goes by bob, its old way to cyd.
STOP = run_of("bare", LINE, STOPPED)
RING = ("ring", (("up", "bob"), ("find", "bob", "ann"), ("note", "ann", "cyd"), ("take", "bob", "ann", 0)))
KEPT = run_of("kept", LINE, TIED)
SOME = (("ask", "ann", "cyd"), ("lose", "bob", "cyd"))


class RingRun(unittest.TestCase):
    def check(self, run, doings, ring=None, worlds=None, **given):
        """Ring is how many deeds it has; worlds how many there are."""
        kept = copy.deepcopy((run, doings))
        overtake = given.get("overtake", False)
        for again in range(2):
            told = ring_run(run, doings, **given)
            self.assertIs(type(told), tuple)
            word, found = told
            if ring is not None:
                self.assertEqual((word, type(found), len(found)), ("ring", tuple, ring))
            if worlds is not None:
                self.assertEqual((word, type(found), len(found)), ("none", list, worlds))
            expected = search_told(run, doings, overtake, 300)
            self.assertEqual((word, len(found) if word == "ring" else set(found)), expected)
            self.assertIs(lets_told(run, doings, told, overtake), True)
            self.assertIs(lets_search(run, doings, told, overtake=overtake), True)
            if word == "none":
                # The list is the asker's own.
                found.clear()
        self.assertEqual((run, doings), kept)
        return ring_run(run, doings, **given)

    def refuse(self, most, run, doings, **given):
        with self.assertRaises(TooMany) as caught:
            ring_run(run, doings, **given)
        self.assertEqual(repr(caught.exception.most), repr(most))

    def test_a_ring_at_once(self):
        run = run_of("bare", LINE, STOPPED + RING[1])
        for doings in ((), (("stop", "cyd"),)):
            self.assertEqual(self.check(run, doings, ring=0), ("ring", ()))
            self.assertEqual(self.check(run, doings, ring=0, overtake=True), ("ring", ()))

    def test_a_ring_by_one_deed(self):
        run = run_of("bare", LINE, STOPPED + RING[1][:3])
        self.assertEqual(self.check(run, (), ring=1), ("ring", RING[1][3:]))
        self.assertEqual(self.check(run, (("stop", "cyd"),), ring=1), ("ring", RING[1][3:]))

    def test_a_ring_by_several_deeds(self):
        for ahead in range(4):
            run = run_of("bare", LINE, STOPPED + RING[1][:ahead])
            for doings in (ANEW[ahead:], ANEW[ahead:][::-1]):
                self.check(run, doings, ring=4 - ahead)
                self.check(run, doings, ring=4 - ahead, overtake=True)

    def test_as_few_as_can_be(self):
        # Doings that needn't be done stand ahead of those that must.
        self.check(STOP, (("stop", "cyd"), ("lose", "cyd", "bob")) + ANEW, ring=4)
        # Bob stops and comes up here, too: it isn't down yet.
        run = run_of("bare", LINE, STOPPED[:9])
        self.check(run, (("stop", "bob"),) + ANEW, ring=5)

    def test_by_overtaking_alone(self):
        # An ask of bob's for ann lies ahead of ann's note.
        run = run_of("bare", LINE, STOPPED + (("up", "bob"), ("find", "bob", "ann"), ("ask", "ann", "bob"), ("note", "ann", "cyd")))
        told = self.check(run, (), overtake=True, ring=1)
        self.assertEqual(told, ("ring", (("take", "bob", "ann", 1),)))
        self.assertEqual(self.check(run, ())[0], "ring")
        self.check(run, (), ring=2)
        self.check(run, (), ring=2, overtake=False)

    def test_none_with_all_worlds(self):
        for rule in RULES:
            self.assertEqual(self.check(run_of(rule, LINE, ()), (), worlds=1), ("none", [(fresh_world(LINE), ())]))
        self.check(KEPT, SOME, worlds=len(all_worlds_told(KEPT, SOME, False, 300)))
        self.check(KEPT, SOME, worlds=len(all_worlds_told(KEPT, SOME, True, 300)), overtake=True)
        self.check(STOP, ANEW[:1], worlds=len(all_worlds_told(STOP, ANEW[:1], False, 300)))

    def test_by_kept_and_by_wait_none(self):
        for doings in (ANEW, ANEW + (("stop", "ann"),), ANEW[:1], ()):
            self.assertEqual(self.check(run_of("kept", LINE, STOPPED), doings)[0], "none")
            self.assertEqual(self.check(run_of("wait", LINE, STOPPED), doings)[0], "none")

    def test_too_many_ahead_of_all(self):
        many = len(all_worlds_told(STOP, ANEW, False, 300))
        # The ring is found by four deeds, ahead of most of these worlds; too many are they all the same.
        self.check(STOP, ANEW, ring=4, limit=many)
        self.check(STOP, ANEW, ring=4, limit=300)
        for limit in (many - 1, 5, 1):
            self.refuse(limit, STOP, ANEW, limit=limit)
        run = run_of("bare", LINE, STOPPED + RING[1])
        self.assertIsNotNone(ring_in(LINE, end_of(run)))
        self.refuse(1, run, (("stop", "cyd"),), limit=1)
        doings = ANEW + (("ask", "ann", "cyd"), ("ask", "cyd", "ann"), ("ask", "cyd", "bob"), ("ask", "bob", "cyd"))
        self.refuse(300, STOP, doings)
        self.refuse(300, STOP, doings, limit=300, overtake=True)

    def test_too_many_where_there_is_none(self):
        many = len(all_worlds_told(KEPT, SOME, False, 300))
        self.check(KEPT, SOME, worlds=many, limit=many)
        self.refuse(many - 1, KEPT, SOME, limit=many - 1)

    def test_behind_sixty_deeds(self):
        run = run_of("bare", LINE, STOPPED[:9] + (("find", "cyd", "bob"), ("lose", "cyd", "bob"))[::-1] * 25 + STOPPED[9:])
        self.assertEqual(len(run[2]), 60)
        self.check(run, ANEW, ring=4)

    def test_worlds_that_come_back_to_where_they_were(self):
        run, deeds = going_round()
        self.check(run, (), ring=0)
        self.check(run, (("stop", "cyd"),), ring=0, overtake=True)
        told = all_worlds(run, (("lose", "ann", "bob"),))
        self.assertEqual(set(told), all_worlds_told(run, (("lose", "ann", "bob"),), False, 300))
        # Without the ring they are another run's: by "kept" the answer comes to its end.
        run = run_of("kept", run[1], run[2][:9])
        self.check(run, (("stop", "bob"), ("up", "bob")))

    def test_handed_in_by_their_names(self):
        with self.assertRaises(TypeError):
            ring_run(KEPT, (), True)
        with self.assertRaises(TypeError):
            lets_search(KEPT, (), RING, True)

    def test_over_drawn_runs(self):
        counts = {}
        for at in range(120):
            dice = random.Random(at)
            net, rule, overtake = (TWO, LINE, LINE, SQUARE, FULL)[at % 5], RULES[at % 3], at % 2 == 1
            run = drawn_run(dice, rule, net, dice.randint(0, 40), dict(WEIGHTS, take=40))
            doings = drawn_doings(dice, net, dice.randint(0, 4))
            if all_worlds_told(run, doings, overtake, 300) is None:
                self.refuse(300, run, doings, overtake=overtake)
                continue
            word = self.check(run, doings, overtake=overtake)[0]
            counts[rule, word] = counts.get((rule, word), 0) + 1
        self.assertEqual({rule for rule, word in counts if word == "ring"} - {"bare"}, set())
        self.assertGreater(min([counts[rule, "none"] for rule in RULES]), 10)


    def test_over_drawn_doings_where_rings_come(self):
        rings = set()
        more = (("stop", "bob"), ("lose", "cyd", "bob"), ("lose", "ann", "bob"), ("find", "bob", "cyd"), ("fail", "ann", "cyd"), ("stop", "ann"),
                ("up", "ann"), ("ask", "ann", "cyd"), ("note", "bob", "cyd"))
        for at in range(60):
            dice = random.Random(at)
            run = run_of("bare", LINE, STOPPED[:dice.choice((9, 10, 10))] if at % 3 else STOPPED + ANEW[:dice.randint(1, 3)])
            doings = [doing for doing in ANEW + more if dice.random() < (0.8 if doing in ANEW else 0.15)][:5]
            doings, overtake = tuple(dice.sample(doings, len(doings))), at % 2 == 1
            if all_worlds_told(run, doings, overtake, 300) is None:
                self.refuse(300, run, doings, overtake=overtake)
                continue
            word, found = self.check(run, doings, overtake=overtake)
            rings.add(len(found) if word == "ring" else None)
            # By "kept" and by "wait", where the deeds can be done, there is none.
            kept = run_of("kept", LINE, run[2])
            if all_worlds_told(kept, doings, overtake, 300) is not None:
                self.assertEqual(self.check(kept, doings, overtake=overtake)[0], "none")
        self.assertLessEqual({None, 1, 2, 3, 4, 5}, rings)


class LetsRing(unittest.TestCase):
    def check(self, answer, deeds, run=STOP, doings=ANEW, **given):
        kept = copy.deepcopy(deeds)
        self.assertIs(lets_search(run, doings, ("ring", deeds), **given), answer, deeds)
        self.assertEqual(repr(deeds), repr(kept))

    def test_of_what_is_told(self):
        self.check(True, RING[1])
        self.check(True, RING[1], overtake=False)
        self.check(True, RING[1], overtake=True)
        self.check(True, (), run=run_of("bare", LINE, STOPPED + RING[1]))
        self.check(True, (), run=run_of("bare", LINE, STOPPED + RING[1]), doings=())

    def test_by_more_deeds_than_need_be(self):
        more = (("take", "cyd", "bob", 0),)
        for at in range(5):
            self.check(True, RING[1][:at] + more + RING[1][at:])
        self.check(True, RING[1] + (("stop", "cyd"),), doings=ANEW + (("stop", "cyd"),))

    def test_to_a_world_without_a_ring(self):
        for size in range(4):
            self.check(False, RING[1][:size])
        # Where the ring is behind already.
        self.check(False, RING[1] + (("lose", "ann", "bob"),), doings=ANEW + (("lose", "ann", "bob"),))
        self.check(False, ())

    def test_of_steps_that_are_none(self):
        for at in range(5):
            for deed in (("stop", "cyd"), ("up", "ann"), ("drop", "cyd", "bob", 0), ("twice", "cyd", "bob", 0), ("lose", "ann", "bob"),
                         ("take", "cyd", "bob", 1), ("take", "bob", "cyd", 0), ("take", "ann", "cyd", 0), ("note", "bob", "ann")):
                self.check(False, RING[1][:at] + (deed,) + RING[1][at:])
        # Doings, but not where they can be done.
        self.check(False, RING[1][1:] + RING[1][:1])
        self.check(False, RING[1][1:2] + RING[1][:1] + RING[1][2:])

    def test_a_step_that_is_no_doing(self):
        for at in range(3):
            self.check(False, RING[1], doings=ANEW[:at] + ANEW[at + 1:])
        self.check(False, RING[1], doings=())

    def test_a_doing_done_twice(self):
        lose = ("lose", "cyd", "bob"), ("find", "cyd", "bob")
        self.check(True, RING[1] + lose, doings=ANEW + lose)
        self.check(True, lose + RING[1], doings=lose + ANEW)
        self.check(False, lose + RING[1] + lose[:1], doings=lose + ANEW)
        self.check(False, RING[1] + (("note", "ann", "cyd"),))
        self.check(False, RING[1][:3] + RING[1][2:])

    def test_left_behind_is_let(self):
        self.check(True, RING[1], doings=(("stop", "cyd"), ("ask", "cyd", "ann")) + ANEW)

    def test_overtaking(self):
        run = run_of("bare", LINE, STOPPED + (("up", "bob"), ("find", "bob", "ann"), ("ask", "ann", "bob"), ("note", "ann", "cyd")))
        deeds = (("take", "bob", "ann", 1),)
        self.check(True, deeds, run=run, doings=(), overtake=True)
        self.check(False, deeds, run=run, doings=())
        self.check(False, deeds, run=run, doings=(), overtake=False)
        self.check(True, (("take", "bob", "ann", 0),) * 2, run=run, doings=())
        self.check(True, (("take", "bob", "ann", 0),) * 2, run=run, doings=(), overtake=True)

    def test_truths_for_numbers(self):
        self.check(False, RING[1][:3] + (("take", "bob", "ann", False),))
        self.check(False, RING[1][:3] + (("take", "bob", "ann", False),), overtake=True)
        run = run_of("bare", LINE, STOPPED + (("up", "bob"), ("find", "bob", "ann"), ("ask", "ann", "bob"), ("note", "ann", "cyd")))
        self.check(False, (("take", "bob", "ann", True),), run=run, doings=(), overtake=True)

    def test_lists_and_tuples_exchanged(self):
        self.check(False, list(RING[1]))
        self.check(False, tuple([list(deed) for deed in RING[1]]))
        for thing in ([*RING], [RING], (RING,), (*RING, ()), RING[1], RING[:1], ("none", RING[1]), ("none", list(RING[1])), ("rings", RING[1]),
                      (["ring"], RING[1]), ("ring", RING), {"ring": RING[1]}, (RING[1], "ring")):
            self.assertIs(lets_search(STOP, ANEW, thing), False)

    def test_of_other_kinds(self):
        for thing in other_kinds():
            for overtake in (False, True):
                self.assertIs(lets_search(STOP, ANEW, thing, overtake=overtake), False)
            self.check(False, thing)
            self.assertIs(lets_search(STOP, ANEW, (thing, RING[1])), False)
            for at in range(4):
                self.check(False, RING[1][:at] + (thing,) + RING[1][at:])
        for thing in changed_at(RING, odd):
            self.assertIs(lets_search(STOP, ANEW, thing), False, thing)

    def test_by_sixty_deeds_and_more(self):
        # By "bare", where an answer goes round in a ring for ever, there are as many steps as one likes.
        run, deeds = going_round()
        for size in (1, 2, 60, 61, 500):
            self.check(True, (deeds * size)[:size], run=run, doings=())
        self.check(False, deeds * 60 + deeds[:1] + deeds[:1], run=run, doings=())


def going_round():
    """A run by "bare" with a ring of ann and bob for cyd in which an answer for cyd goes round, and the steps of a round."""
    net = (("ann", "bob", "cyd", "dan"), (("ann", "bob"), ("ann", "dan"), ("bob", "cyd")))
    deeds = [("find", one, other) for pair in net[1] for one, other in (pair, pair[::-1])]
    deeds += [("ask", "cyd", "dan"), ("take", "bob", "cyd", 0), ("take", "ann", "bob", 0), ("stop", "bob"), ("up", "bob"),
              ("find", "bob", "ann"), ("note", "ann", "cyd"), ("take", "bob", "ann", 0), ("take", "dan", "ann", 0),
              ("take", "ann", "dan", 0)]
    return run_of("bare", net, deeds), (("take", "bob", "ann", 0), ("take", "ann", "bob", 0))


class LetsNone(unittest.TestCase):
    def paper(self, run=KEPT, doings=SOME, overtake=False):
        return sorted(all_worlds_told(run, doings, overtake, 3000), key=repr)

    def check(self, answer, paper, run=KEPT, doings=SOME, **given):
        kept = copy.deepcopy(paper)
        self.assertIs(lets_search(run, doings, ("none", paper), **given), answer)
        self.assertEqual(repr(paper), repr(kept))

    def test_of_what_is_told(self):
        for run, doings in ((KEPT, SOME), (KEPT, ()), (run_of("wait", LINE, STOPPED), ANEW), (run_of("kept", LINE, STOPPED), ANEW)):
            for overtake in (False, True):
                told = ring_run(run, doings, overtake=overtake)
                self.check(True, told[1], run=run, doings=doings, overtake=overtake)

    def test_in_another_order(self):
        paper = self.paper()
        dice = random.Random(28)
        for again in range(5):
            self.check(True, dice.sample(paper, len(paper)))
        self.check(True, paper[::-1])

    def test_with_one_left_out(self):
        paper = self.paper()
        for at in range(len(paper)):
            self.check(False, paper[:at] + paper[at + 1:])
        self.check(False, [])

    def test_without_the_first_one(self):
        first = (end_of(KEPT), SOME)
        paper = self.paper()
        self.check(False, [part for part in paper if part != first])
        # A list that is closed, but of another beginning.
        self.check(False, self.paper(doings=SOME[:1]))
        self.check(True, self.paper(doings=SOME[:1]), doings=SOME[:1])
        self.check(False, self.paper(run=run_of("kept", LINE, TIED[:3])))
        self.check(False, paper, run=run_of("kept", LINE, TIED[:3]))

    def test_with_one_twice(self):
        paper = self.paper()
        for at in range(0, len(paper), 4):
            self.check(False, paper + [paper[at]])
            self.check(False, paper[:at] + [paper[at]] + paper[at:])

    def test_with_one_too_many(self):
        # A world more from which no step leads out of the list is no harm; one from which one leads out is.
        paper = self.paper()
        self.check(True, paper + [(fresh_world(LINE), ())])
        self.check(False, paper + [(fresh_world(LINE), (("ask", "ann", "cyd"),))])
        asked = run_of("kept", LINE, TIED + (("ask", "cyd", "ann"),))
        self.check(False, paper + [(end_of(asked), ())])
        self.check(True, paper + self.paper(run=asked, doings=()))

    def test_doings_not_in_order(self):
        paper = self.paper()
        turned = [(world, left[::-1]) for world, left in paper]
        self.check(False, turned)
        self.check(False, paper, doings=SOME[::-1])
        at = [len(left) for world, left in paper].index(2)
        self.check(False, paper[:at] + [(paper[at][0], SOME[::-1])] + paper[at + 1:])
        self.check(False, paper + [(fresh_world(LINE), SOME[::-1])])

    def test_doings_that_are_none_of_them(self):
        paper = self.paper()
        for left in ((("stop", "ann"),), SOME[:1] * 2, (None,), ("ask",), (("ask", "ann"),), [], [SOME[0]], None, SOME[0], {}, ((),),
                     (["ask", "ann", "cyd"],), SOME + SOME):
            self.check(False, paper + [(fresh_world(LINE), left)])
        for at, (world, left) in enumerate(paper):
            self.check(False, paper[:at] + [(world, list(left))] + paper[at + 1:])

    def test_a_world_with_a_ring_among_them(self):
        paper = self.paper(run=STOP, doings=ANEW)
        self.check(False, paper, run=STOP, doings=ANEW)
        self.assertIs(lets_search(STOP, ANEW, ("none", [part for part in paper if not has_ring(LINE, part[0])])), False)
        ring = run_of("bare", LINE, STOPPED + RING[1])
        self.check(False, self.paper(run=ring, doings=()), run=ring, doings=())
        self.check(False, self.paper() + self.paper(run=ring, doings=()))

    def test_worlds_of_another_net(self):
        paper = self.paper()
        self.check(False, paper + [(fresh_world(TWO), ())])
        self.check(False, paper + [(fresh_world(SQUARE), ())])

    def test_overtake(self):
        doings = (("ask", "ann", "cyd"), ("ask", "ann", "bob"))
        small, wide = self.paper(doings=doings), self.paper(doings=doings, overtake=True)
        self.assertLess(len(small), len(wide))
        self.check(True, small, doings=doings)
        self.check(False, small, doings=doings, overtake=True)
        self.check(True, wide, doings=doings, overtake=True)
        # A wider list is closed by first letters, too.
        self.check(True, wide, doings=doings, overtake=False)

    def test_more_than_three_hundred(self):
        run = run_of("kept", FULL, ())
        doings = tuple([("find", one, other) for one, other in FULL[1]][:7]) + (("ask", "ann", "bob"),)
        paper = self.paper(run=run, doings=doings)
        self.assertGreater(len(paper), 300)
        self.check(True, paper, run=run, doings=doings)
        self.check(False, paper[:-1], run=run, doings=doings)
        self.check(False, paper[1:], run=run, doings=doings)

    def test_lists_and_tuples_exchanged(self):
        paper = self.paper()
        self.check(False, tuple(paper))
        self.check(False, [list(part) for part in paper])
        self.check(False, {part: True for part in paper})
        for at in range(0, len(paper), 3):
            world, left = paper[at]
            for thing in ([world, left], (world,), (world, left, left), (list(world), left), ((list(world[0]), world[1]), left),
                          ((world[0], list(world[1])), left), (left, world), world, (None, left), (world, None)):
                self.check(False, paper[:at] + [thing] + paper[at + 1:])
                self.check(False, paper + [thing])
        self.assertIs(lets_search(KEPT, SOME, ["none", paper]), False)
        self.assertIs(lets_search(KEPT, SOME, ("none", paper, None)), False)
        self.assertIs(lets_search(KEPT, SOME, ("ring", paper)), False)
        self.assertIs(lets_search(KEPT, SOME, paper), False)

    def test_truths_for_numbers(self):
        paper = self.paper()

        def with_truths(thing):
            if isinstance(thing, tuple):
                return tuple([with_truths(part) for part in thing])
            return bool(thing) if thing in (0, 1) else thing

        for at, part in enumerate(paper):
            self.assertEqual(with_truths(part), part)
            self.check(False, paper[:at] + [with_truths(part)] + paper[at + 1:])
            self.check(False, paper + [with_truths(part)])

    def test_changed_at_a_place(self):
        run, doings = run_of("kept", TWO, (("find", "a", "b"), ("find", "b", "a"))), (("ask", "a", "b"),)
        paper = self.paper(run=run, doings=doings)
        self.check(True, paper, run=run, doings=doings)
        for at, part in enumerate(paper):
            for thing in changed_at(part, odd):
                changed = paper[:at] + [thing] + paper[at + 1:]
                if repr(thing) != repr(part):
                    self.check(False, changed, run=run, doings=doings)

    def test_of_other_kinds(self):
        paper = self.paper()
        for thing in other_kinds():
            self.check(False, thing)
            self.check(False, paper + [thing])
            self.check(False, [thing] + paper)
            self.assertIs(lets_search(KEPT, SOME, (thing, paper)), False)

    def test_over_drawn_papers(self):
        answers = []
        for at in range(80):
            dice = random.Random(at)
            net, rule, overtake = (TWO, LINE, LINE, SQUARE)[at % 4], RULES[at % 3], at % 2 == 1
            run = drawn_run(dice, rule, net, dice.randint(0, 30), dict(WEIGHTS, take=40))
            doings = drawn_doings(dice, net, dice.randint(1, 3))
            paper = all_worlds_told(run, doings, overtake, 150)
            if paper is None:
                continue
            paper = dice.sample(sorted(paper, key=repr), len(paper))
            if dice.random() < 0.5:
                paper.pop(dice.randrange(len(paper)))
            other = at % 3 == 0
            thing = ("none", paper)
            answers.append(lets_told(run, doings, thing, other))
            self.assertIs(lets_search(run, doings, thing, overtake=other), answers[-1])
            walk = self.walk(dice, run, doings)
            self.assertIs(lets_search(run, doings, ("ring", walk), overtake=other), lets_told(run, doings, ("ring", walk), other))
        self.assertGreater(answers.count(True), 10)
        self.assertGreater(answers.count(False), 10)

    def walk(self, dice, run, doings):
        """Some steps, drawn."""
        world, left = worlds_told(run)[-1], doings
        deeds = []
        for at in range(dice.randint(0, 8)):
            steps = steps_told(run[0], run[1], world, left, True)
            if steps:
                deed, world, left = dice.choice(steps)
                deeds.append(deed)
        return tuple(deeds)


if __name__ == "__main__":
    unittest.main()
