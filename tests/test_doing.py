import copy
import random
import unittest

from askedways.doing import asking, failing, finding, losing, noting
from askedways.labels import is_nearer, label_in
from askedways.letters import is_letter
from askedways.states import is_state
from kinds import BIG, FULL, HOUSES

# All is done by bob; in FULL each two houses are neighbours.
TIES = ("ann", "cyd", "dan")
TABLE = (("ann", 2, 1, "ann"), ("cyd", 3, 2, "ann"), ("dan", 4, None, None), ("eve", 5, 2, "dan"))


def state(own=0, asks=0, table=(), seen=(), ties=TIES):
    return ("up", own, asks, table, seen, ties)


class Doing(unittest.TestCase):
    def check(self, do, ahead, behind, sent):
        """That this is told, twice, with what is handed in left as it was and what is told the asker's own."""
        self.assertIs(is_state(FULL, "bob", ahead), True)
        kept = copy.deepcopy(ahead)
        for again in range(2):
            told = do(ahead)
            self.assertEqual(repr(told), repr((behind, sent)))
            told[1].append("changed")
            if sent:
                told[1][0] = None
            self.assertEqual(ahead, kept)
        self.assertIs(is_state(FULL, "bob", behind), True)


class Finding(Doing):
    def test_put_in_its_rising_place_and_nothing_sent(self):
        for ties in ((), ("ann",), ("cyd",), ("ann", "cyd"), ("cyd", "dan"), ("ann", "cyd", "dan"), ("eve",)):
            for other in ("ann", "cyd", "dan", "eve"):
                if other not in ties:
                    self.check(lambda ahead: finding(ahead, other), state(ties=ties),
                               state(ties=tuple(sorted(ties + (other,)))), [])

    def test_all_else_stays(self):
        table, seen = TABLE, (("ann", 1), ("bob", BIG))
        self.check(lambda ahead: finding(ahead, "eve"), state(BIG, 7, table, seen),
                   state(BIG, 7, table, seen, TIES + ("eve",)), [])


class Losing(Doing):
    def lose(self, other, ahead, behind, sent):
        self.check(lambda given: losing(given, other), ahead, behind, sent)

    def test_no_row_by_it(self):
        self.lose("cyd", state(1, 2, TABLE, (("ann", 1),)), state(1, 2, TABLE, (("ann", 1),), ("ann", "dan")), [])
        self.lose("ann", state(ties=("ann",)), state(ties=()), [])

    def test_one_row_by_it(self):
        letter = ("broken", (("eve", 6),))
        self.lose("dan", state(1, 2, TABLE, (("ann", 1),)),
                  state(1, 2, TABLE[:3] + (("eve", 6, None, None),), (("ann", 1),), ("ann", "cyd")),
                  [("ann", letter), ("cyd", letter)])

    def test_several_rows_by_it(self):
        letter = ("broken", (("ann", 3), ("cyd", 4)))
        self.lose("ann", state(table=TABLE),
                  state(table=(("ann", 3, None, None), ("cyd", 4, None, None)) + TABLE[2:], ties=("cyd", "dan")),
                  [("cyd", letter), ("dan", letter)])

    def test_a_row_of_a_house_by_another_one_stays(self):
        row = ("cyd", 3, 2, "ann")
        self.lose("cyd", state(table=(row,)), state(table=(row,), ties=("ann", "dan")), [])

    def test_a_broken_row_of_it_stays(self):
        row = ("cyd", 3, None, None)
        self.lose("cyd", state(table=(row,)), state(table=(row,), ties=("ann", "dan")), [])

    def test_no_tie_that_stays(self):
        self.lose("ann", state(table=(("ann", 2, 1, "ann"),), ties=("ann",)),
                  state(table=(("ann", 3, None, None),), ties=()), [])

    def test_one_tie_that_stays(self):
        self.lose("ann", state(table=(("ann", 2, 1, "ann"),), ties=("ann", "eve")),
                  state(table=(("ann", 3, None, None),), ties=("eve",)), [("eve", ("broken", (("ann", 3),)))])

    def test_sixty_figures(self):
        letter = ("broken", (("eve", BIG + 1),))
        self.lose("ann", state(BIG, BIG, (("eve", BIG, BIG, "ann"),)),
                  state(BIG, BIG, (("eve", BIG + 1, None, None),), ties=("cyd", "dan")),
                  [("cyd", letter), ("dan", letter)])


class Asking(Doing):
    def ask(self, wanted, ahead, behind, sent):
        self.check(lambda given: asking(given, "bob", wanted), ahead, behind, sent)

    def test_no_tie(self):
        self.ask("eve", state(ties=()), state(1, 1, seen=(("bob", 1),), ties=()), [])

    def test_one_tie(self):
        self.ask("eve", state(ties=("dan",)), state(1, 1, seen=(("bob", 1),), ties=("dan",)),
                 [("dan", ("ask", "bob", 1, "eve", 0, (1, 0)))])

    def test_several_ties_the_wanted_one_among_them_too(self):
        letter = ("ask", "bob", 1, "cyd", 0, (1, 0))
        self.ask("cyd", state(), state(1, 1, seen=(("bob", 1),)), [(tie, letter) for tie in TIES])

    def test_own_and_asks_by_themselves(self):
        letter = ("ask", "bob", 3, "eve", 0, (8, 0))
        self.ask("eve", state(7, 2), state(8, 3, seen=(("bob", 3),)), [(tie, letter) for tie in TIES])
        letter = ("ask", "bob", 8, "eve", 0, (3, 0))
        self.ask("eve", state(2, 7), state(3, 8, seen=(("bob", 8),)), [(tie, letter) for tie in TIES])

    def test_seen_rises(self):
        seen = (("ann", 4), ("bob", 1), ("bob", 9), ("cyd", 1))
        letter = ("ask", "bob", 3, "eve", 0, (3, 0))
        self.ask("eve", state(2, 2, seen=seen),
                 state(3, 3, seen=(("ann", 4), ("bob", 1), ("bob", 3), ("bob", 9), ("cyd", 1))),
                 [(tie, letter) for tie in TIES])

    def test_seen_already(self):
        letter = ("ask", "bob", 3, "eve", 0, (3, 0))
        self.ask("eve", state(2, 2, seen=(("bob", 3),)), state(3, 3, seen=(("bob", 3),)), [(tie, letter) for tie in TIES])

    def test_least_is_the_number_of_a_row_and_of_a_broken_one(self):
        for wanted, least in (("ann", 2), ("cyd", 3), ("dan", 4), ("eve", 5)):
            letter = ("ask", "bob", 1, wanted, least, (1, 0))
            self.ask(wanted, state(table=TABLE), state(1, 1, TABLE, (("bob", 1),)), [(tie, letter) for tie in TIES])

    def test_sixty_figures(self):
        letter = ("ask", "bob", BIG + 1, "eve", BIG, (BIG + 1, 0))
        table = (("eve", BIG, None, None),)
        self.ask("eve", state(BIG, BIG, table), state(BIG + 1, BIG + 1, table, (("bob", BIG + 1),)),
                 [(tie, letter) for tie in TIES])


class Failing(Doing):
    def fail_by(self, wanted, ahead, behind, sent):
        self.check(lambda given: failing(given, wanted), ahead, behind, sent)

    def test_no_tie_but_the_next(self):
        self.fail_by("ann", state(table=TABLE[:1], ties=("ann",)), state(table=(("ann", 3, None, None),), ties=("ann",)),
                     [("ann", ("broken", (("ann", 3),)))])

    def test_several_ties_the_next_among_them_too(self):
        letter = ("broken", (("cyd", 4),))
        self.fail_by("cyd", state(1, 2, TABLE, (("ann", 1),)),
                     state(1, 2, (TABLE[0], ("cyd", 4, None, None)) + TABLE[2:], (("ann", 1),)),
                     [(tie, letter) for tie in TIES])

    def test_the_other_rows_by_the_same_next_stay(self):
        letter = ("broken", (("ann", 3),))
        self.fail_by("ann", state(table=TABLE), state(table=(("ann", 3, None, None),) + TABLE[1:]),
                     [(tie, letter) for tie in TIES])

    def test_sixty_figures(self):
        letter = ("broken", (("eve", BIG + 1),))
        self.fail_by("eve", state(table=(("eve", BIG, 1, "ann"),)), state(table=(("eve", BIG + 1, None, None),)),
                     [(tie, letter) for tie in TIES])


class Noting(Doing):
    def note(self, wanted, ahead, sent):
        self.check(lambda given: noting(given, wanted), ahead, ahead, sent)

    def test_one_tie(self):
        self.note("ann", state(table=TABLE[:1], ties=("ann",)), [("ann", ("note", "ann", (2, 1)))])

    def test_several_ties_the_next_among_them_too(self):
        for row in TABLE[:2] + TABLE[3:]:
            self.note(row[0], state(1, 2, TABLE, (("ann", 1),)), [(tie, ("note", row[0], row[1:3])) for tie in TIES])

    def test_sixty_figures(self):
        self.note("eve", state(table=(("eve", BIG, BIG, "ann"),)), [(tie, ("note", "eve", (BIG, BIG))) for tie in TIES])


class NoTies(Doing):
    def test_failing_and_noting_with_no_ties_at_all(self):
        # No state of a net, as a row's next is among the ties: yet a letter to each of none is no letter.
        ahead = ("up", 1, 1, (("eve", 2, 1, "ann"),), (), ())
        self.assertEqual(failing(ahead, "eve"), (("up", 1, 1, (("eve", 3, None, None),), (), ()), []))
        self.assertEqual(noting(ahead, "eve"), (ahead, []))


class AllTogether(unittest.TestCase):
    def test_what_is_told_is_a_state_and_letters_and_knowing_never_goes_back(self):
        dice = random.Random(11)
        for turn in range(2000):
            ties = tuple(other for other in HOUSES if other != "bob" and dice.random() < 0.7)
            table = []
            for other in HOUSES:
                if other != "bob" and dice.random() < 0.7:
                    number = dice.randint(1, 5)
                    live = ties and dice.random() < 0.7
                    table.append((other, number, dice.randint(1, 4), dice.choice(ties)) if live
                                 else (other, number, None, None))
            ahead = state(dice.randint(0, 4), dice.randint(0, 3), tuple(table), (), ties)
            told = [finding(ahead, other) for other in HOUSES if other != "bob" and other not in ties]
            told += [losing(ahead, other) for other in ties]
            told += [asking(ahead, "bob", other) for other in HOUSES if other != "bob"]
            live = [row[0] for row in table if row[2] is not None]
            told += [failing(ahead, wanted) for wanted in live] + [noting(ahead, wanted) for wanted in live]
            for behind, sent in told:
                self.assertIs(is_state(FULL, "bob", behind), True)
                self.assertIs(type(sent), list)
                self.assertEqual([tie for tie, letter in sent], list(behind[5]) if sent else [])
                for tie, letter in sent:
                    self.assertIs(is_letter(FULL, letter), True)
                for wanted in HOUSES:
                    self.assertIs(is_nearer(label_in(ahead, "bob", wanted), label_in(behind, "bob", wanted)), False)


if __name__ == "__main__":
    unittest.main()
