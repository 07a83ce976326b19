import copy
import random
import unittest

from askedways.labels import is_nearer, label_in
from askedways.letters import is_letter
from askedways.states import is_state
from askedways.taking import takes_letter
from kinds import BIG, FULL, HOUSES
from telling import HouseTold

# Letters are taken by bob; in FULL each two houses are neighbours.
TIES = ("ann", "cyd", "dan")


def state(own=0, asks=0, table=(), seen=(), ties=TIES):
    return ("up", own, asks, table, seen, ties)


class Taking(unittest.TestCase):
    def check(self, ahead, other, letter, behind, sent, house="bob"):
        """That bob does this, with what it is handed left as it was, and the same once more when the told list is changed."""
        self.assertIs(is_state(FULL, house, ahead), True)
        self.assertIs(is_letter(FULL, letter), True)
        kept = copy.deepcopy((ahead, letter))
        for again in range(2):
            told = takes_letter(ahead, house, other, letter)
            self.assertEqual(repr(told), repr((behind, sent)))
            told[1].append("changed")
            if sent:
                told[1][0] = None
            self.assertEqual((ahead, letter), kept)
        self.assertIs(is_state(FULL, house, behind), True)


class NoTie(Taking):
    def test_from_a_neighbour_that_is_no_tie(self):
        ahead = state(own=2, table=(("eve", 1, 1, "ann"),))
        for letter in (("ask", "eve", 1, "bob", 9, (7, 0)), ("ask", "eve", 1, "cyd", 0, (7, 0)),
                       ("answer", "ann", "eve", (9, 0)), ("broken", (("eve", 9),)), ("note", "eve", (9, 0))):
            self.check(ahead, "eve", letter, ahead, [])
            self.check(state(ties=()), "ann", letter, state(ties=()), [])


class Asks(Taking):
    def test_taken_by_the_asker(self):
        ahead = state(own=1, asks=1, seen=(("bob", 1),))
        self.check(ahead, "ann", ("ask", "bob", 1, "eve", 0, (1, 1)), ahead, [])
        self.check(ahead, "ann", ("ask", "bob", 9, "eve", 4, (9, 3)), ahead, [])
        self.check(state(), "ann", ("ask", "bob", 9, "eve", 4, (9, 3)), state(), [])

    def test_by_the_wanted_house_own_becomes_one_more(self):
        for own, least in ((0, 0), (0, 1), (4, 0), (4, 4), (4, 5), (BIG, 3)):
            self.check(
                state(own=own), "ann", ("ask", "eve", 3, "bob", least, (2, 1)),
                state(own=own + 1, table=(("eve", 2, 2, "ann"),), seen=(("eve", 3),)),
                [("ann", ("answer", "eve", "bob", (own + 1, 0)))])

    def test_by_the_wanted_house_own_becomes_least(self):
        for own, least in ((0, 2), (4, 6), (4, BIG)):
            self.check(
                state(own=own), "ann", ("ask", "eve", 3, "bob", least, (2, 1)),
                state(own=least, table=(("eve", 2, 2, "ann"),), seen=(("eve", 3),)),
                [("ann", ("answer", "eve", "bob", (least, 0)))])

    def test_an_answer_goes_to_the_next_of_the_row_for_the_asker(self):
        row = ("eve", 5, 1, "dan")
        self.check(
            state(own=1, table=(row,)), "ann", ("ask", "eve", 3, "bob", 0, (2, 1)),
            state(own=2, table=(row,), seen=(("eve", 3),)),
            [("dan", ("answer", "eve", "bob", (2, 0)))])

    def test_seen_already(self):
        seen = (("eve", 3),)
        for wanted in ("ann", "cyd", "dan"):
            self.check(
                state(seen=seen), "ann", ("ask", "eve", 3, wanted, 0, (2, 1)),
                state(seen=seen, table=(("eve", 2, 2, "ann"),)), [])
        # Answered it would be, had it not been seen.
        ahead = state(seen=seen, table=(("cyd", 1, 1, "cyd"), ("eve", 5, 1, "dan")))
        self.check(ahead, "ann", ("ask", "eve", 3, "cyd", 0, (2, 1)), ahead, [])
        self.check(ahead, "ann", ("ask", "eve", 3, "cyd", 9, (2, 1)), ahead, [])

    def test_seen_already_by_the_wanted_house(self):
        seen = (("eve", 3),)
        for own, least in ((4, 4), (4, 3), (0, 0), (4, 0)):
            self.check(
                state(own=own, seen=seen), "ann", ("ask", "eve", 3, "bob", least, (2, 1)),
                state(own=own, seen=seen, table=(("eve", 2, 2, "ann"),)), [])

    def test_seen_already_by_the_wanted_house_with_an_own_less_than_least(self):
        seen = (("eve", 3), ("eve", 4))
        for own, least in ((0, 1), (4, 5), (4, 9)):
            self.check(
                state(own=own, seen=seen), "ann", ("ask", "eve", 3, "bob", least, (2, 1)),
                state(own=least, seen=seen, table=(("eve", 2, 2, "ann"),)),
                [("ann", ("answer", "eve", "bob", (least, 0)))])

    def test_other_asks_of_the_asker_are_not_this_one(self):
        self.check(
            state(seen=(("ann", 3), ("eve", 2), ("eve", 4))), "ann", ("ask", "eve", 3, "bob", 0, (2, 1)),
            state(own=1, seen=(("ann", 3), ("eve", 2), ("eve", 3), ("eve", 4)), table=(("eve", 2, 2, "ann"),)),
            [("ann", ("answer", "eve", "bob", (1, 0)))])

    def test_answered_by_a_house_with_a_good_row(self):
        for row in (("cyd", 6, 1, "cyd"), ("cyd", 6, 4, "dan"), ("cyd", 6, 2, "ann")):
            for least in (0, 5, 6):
                self.check(
                    state(own=1, table=(row,)), "ann", ("ask", "eve", 3, "cyd", least, (2, 1)),
                    state(own=1, table=(row, ("eve", 2, 2, "ann")), seen=(("eve", 3),)),
                    [("ann", ("answer", "eve", "cyd", row[1:3]))])

    def test_let_on_where_the_row_has_a_number_less_than_least(self):
        row = ("cyd", 6, 1, "cyd")
        on = ("ask", "eve", 3, "cyd", 7, (2, 2))
        self.check(
            state(table=(row,)), "ann", ("ask", "eve", 3, "cyd", 7, (2, 1)),
            state(table=(row, ("eve", 2, 2, "ann")), seen=(("eve", 3),)), [("cyd", on), ("dan", on)])

    def test_let_on_where_the_row_is_broken(self):
        row = ("cyd", 6, None, None)
        for least, onward in ((0, 6), (5, 6), (6, 6), (7, 7)):
            on = ("ask", "eve", 3, "cyd", onward, (2, 2))
            self.check(
                state(table=(row,)), "ann", ("ask", "eve", 3, "cyd", least, (2, 1)),
                state(table=(row, ("eve", 2, 2, "ann")), seen=(("eve", 3),)), [("cyd", on), ("dan", on)])

    def test_let_on_where_nothing_is_known(self):
        for least in (0, 1, BIG):
            on = ("ask", "eve", 3, "cyd", least, (2, 2))
            self.check(
                state(), "ann", ("ask", "eve", 3, "cyd", least, (2, 1)),
                state(table=(("eve", 2, 2, "ann"),), seen=(("eve", 3),)), [("cyd", on), ("dan", on)])

    def test_let_on_to_all_ties_but_the_neighbour(self):
        on = ("ask", "eve", 3, "cyd", 0, (2, 2))
        for ties in (("ann",), ("ann", "cyd"), ("ann", "dan", "eve"), ("ann", "cyd", "dan", "eve")):
            for other in ties:
                self.check(
                    state(ties=ties), other, ("ask", "eve", 3, "cyd", 0, (2, 1)),
                    state(ties=ties, table=(("eve", 2, 2, other),), seen=(("eve", 3),)),
                    [(tie, on) for tie in ties if tie != other])

    def test_the_claim_let_on_is_the_label_of_the_house(self):
        row = ("eve", 5, 1, "dan")
        on = ("ask", "eve", 3, "cyd", 0, (5, 1))
        self.check(
            state(table=(row,)), "ann", ("ask", "eve", 3, "cyd", 0, (2, 1)),
            state(table=(row,), seen=(("eve", 3),)), [("cyd", on), ("dan", on)])

    def test_a_claim_mends_a_broken_row_for_the_asker(self):
        on = ("ask", "eve", 3, "cyd", 0, (5, 2))
        self.check(
            state(table=(("eve", 5, None, None),)), "ann", ("ask", "eve", 3, "cyd", 0, (5, 1)),
            state(table=(("eve", 5, 2, "ann"),), seen=(("eve", 3),)), [("cyd", on), ("dan", on)])

    def test_neither_where_the_row_for_the_asker_is_broken(self):
        row = ("eve", 5, None, None)
        self.check(
            state(table=(row,)), "ann", ("ask", "eve", 3, "cyd", 0, (4, 1)),
            state(table=(row,), seen=(("eve", 3),)), [])
        cyd = ("cyd", 6, 1, "cyd")
        self.check(
            state(table=(cyd, row)), "ann", ("ask", "eve", 3, "cyd", 0, (4, 1)),
            state(table=(cyd, row), seen=(("eve", 3),)), [])

    def test_own_becomes_more_all_the_same(self):
        row = ("eve", 5, None, None)
        for own, least, behind in ((2, 0, 3), (2, 9, 9)):
            self.check(
                state(own=own, table=(row,)), "ann", ("ask", "eve", 3, "bob", least, (4, 1)),
                state(own=behind, table=(row,), seen=(("eve", 3),)), [])
        self.check(
            state(own=2, table=(row,), seen=(("eve", 3),)), "ann", ("ask", "eve", 3, "bob", 6, (4, 1)),
            state(own=6, table=(row,), seen=(("eve", 3),)), [])

    def test_asks_stays(self):
        self.check(
            state(own=2, asks=7), "ann", ("ask", "ann", 1, "bob", 0, (1, 0)),
            state(own=3, asks=7, table=(("ann", 1, 1, "ann"),), seen=(("ann", 1),)),
            [("ann", ("answer", "ann", "bob", (3, 0)))])


class Answers(Taking):
    def test_taken_by_the_asker(self):
        self.check(
            state(own=1), "ann", ("answer", "bob", "eve", (4, 1)),
            state(own=1, table=(("eve", 4, 2, "ann"),)), [])

    def test_taken_by_the_wanted_house(self):
        ahead = state(own=1, table=(("eve", 4, 2, "ann"),))
        self.check(ahead, "ann", ("answer", "eve", "bob", (9, 0)), ahead, [])
        self.check(state(table=(("eve", 4, 2, "ann"),)), "ann", ("answer", "eve", "bob", (9, 0)),
                   state(table=(("eve", 4, 2, "ann"),)), [])

    def test_taken_by_one_between(self):
        back = ("eve", 4, 2, "dan")
        self.check(
            state(table=(back,)), "ann", ("answer", "eve", "ann", (6, 0)),
            state(table=(("ann", 6, 1, "ann"), back)), [("dan", ("answer", "eve", "ann", (6, 1)))])

    def test_a_farther_claim_is_answered_by_what_is_known(self):
        table = (("cyd", 7, 3, "cyd"), ("eve", 4, 2, "dan"))
        for claim in ((6, 0), (7, 2), (7, 5)):
            self.check(state(table=table), "ann", ("answer", "eve", "cyd", claim),
                       state(table=table), [("dan", ("answer", "eve", "cyd", (7, 3)))])

    def test_back_to_the_neighbour_itself_too(self):
        back = ("eve", 4, 2, "ann")
        self.check(
            state(table=(back,)), "ann", ("answer", "eve", "cyd", (6, 1)),
            state(table=(("cyd", 6, 2, "ann"), back)), [("ann", ("answer", "eve", "cyd", (6, 2)))])

    def test_with_no_row_for_the_asker(self):
        self.check(state(), "ann", ("answer", "eve", "cyd", (6, 0)), state(table=(("cyd", 6, 1, "ann"),)), [])

    def test_with_a_broken_row_for_the_asker(self):
        back = ("eve", 4, None, None)
        self.check(state(table=(back,)), "ann", ("answer", "eve", "cyd", (6, 0)),
                   state(table=(("cyd", 6, 1, "ann"), back)), [])

    def test_with_a_broken_row_for_the_wanted_house(self):
        table = (("cyd", 7, None, None), ("eve", 4, 2, "dan"))
        self.check(state(table=table), "ann", ("answer", "eve", "cyd", (6, 0)), state(table=table), [])
        self.check(state(table=table), "ann", ("answer", "eve", "cyd", (7, 0)),
                   state(table=(("cyd", 7, 1, "ann"), table[1])), [("dan", ("answer", "eve", "cyd", (7, 1)))])


class Brokens(Taking):
    table = (("ann", 2, 1, "ann"), ("cyd", 3, 2, "ann"), ("dan", 4, None, None), ("eve", 5, 2, "dan"))

    def test_a_row_by_the_neighbour(self):
        letter = ("broken", (("cyd", 4),))
        self.check(state(table=self.table), "ann", letter,
                   state(table=(self.table[0], ("cyd", 4, None, None)) + self.table[2:]),
                   [("cyd", letter), ("dan", letter)])

    def test_rows_by_another_one(self):
        for other in ("cyd", "dan"):
            self.check(state(table=self.table), other, ("broken", (("cyd", 9),)), state(table=self.table), [])
        self.check(state(table=self.table), "ann", ("broken", (("eve", 9),)), state(table=self.table), [])

    def test_numbers_that_are_not_greater(self):
        self.check(state(table=self.table), "ann", ("broken", (("ann", 1), ("cyd", 3))), state(table=self.table), [])
        self.check(state(table=self.table), "ann", ("broken", (("ann", 2), ("cyd", 1))), state(table=self.table), [])

    def test_broken_ones_and_none_and_the_house_itself(self):
        letter = ("broken", (("bob", 9), ("dan", 9)))
        self.check(state(own=1, table=self.table), "ann", letter, state(own=1, table=self.table), [])
        self.check(state(own=1), "ann", letter, state(own=1), [])

    def test_only_those_that_were_broken_are_told_on(self):
        letter = ("broken", (("ann", 9), ("bob", 9), ("cyd", 3), ("dan", 9), ("eve", 9)))
        on = ("broken", (("ann", 9),))
        self.check(state(table=self.table), "ann", letter,
                   state(table=(("ann", 9, None, None),) + self.table[1:]), [("cyd", on), ("dan", on)])

    def test_several(self):
        letter = ("broken", (("ann", 3), ("cyd", BIG), ("eve", 6)))
        on = ("broken", (("ann", 3), ("cyd", BIG)))
        self.check(state(table=self.table), "ann", letter,
                   state(table=(("ann", 3, None, None), ("cyd", BIG, None, None)) + self.table[2:]),
                   [("cyd", on), ("dan", on)])

    def test_to_no_other_ties(self):
        self.check(state(table=self.table[:1], ties=("ann",)), "ann", ("broken", (("ann", 3),)),
                   state(table=(("ann", 3, None, None),), ties=("ann",)), [])


class Notes(Taking):
    table = (("ann", 2, 3, "cyd"), ("dan", 4, None, None))

    def test_nearer(self):
        self.check(state(table=self.table), "ann", ("note", "ann", (2, 0)),
                   state(table=(("ann", 2, 1, "ann"), self.table[1])), [])
        self.check(state(table=self.table), "dan", ("note", "dan", (4, 8)),
                   state(table=(self.table[0], ("dan", 4, 9, "dan"))), [])
        self.check(state(table=self.table), "ann", ("note", "eve", (1, 1)),
                   state(table=self.table + (("eve", 1, 2, "ann"),)), [])

    def test_as_near_and_farther(self):
        for claim in ((2, 2), (2, 3), (1, 0)):
            self.check(state(table=self.table), "ann", ("note", "ann", claim), state(table=self.table), [])
        self.check(state(table=self.table), "ann", ("note", "dan", (3, 0)), state(table=self.table), [])

    def test_of_the_house_itself(self):
        for own in (0, 3):
            self.check(state(own=own), "ann", ("note", "bob", (9, 0)), state(own=own), [])


def any_state(dice, house):
    others = [other for other in HOUSES if other != house]
    ties = tuple(other for other in others if dice.random() < 0.7)
    table = []
    for other in others:
        if dice.random() < 0.6:
            if ties and dice.random() < 0.7:
                table.append((other, dice.randint(1, 4), dice.randint(1, 4), dice.choice(ties)))
            else:
                table.append((other, dice.randint(1, 4), None, None))
    seen = tuple((asker, ask) for asker in HOUSES for ask in (1, 2) if dice.random() < 0.3)
    return ("up", dice.randint(0, 4), dice.randint(0, 2), tuple(table), seen, ties)


def any_letter(dice):
    one, other = dice.sample(HOUSES, 2)
    claim = (dice.randint(1, 4), dice.randint(0, 3))
    kind = dice.choice(("ask", "ask", "answer", "broken", "note"))
    if kind == "ask":
        return ("ask", one, dice.randint(1, 2), other, dice.randint(0, 5), claim)
    if kind == "answer":
        return ("answer", one, other, claim)
    if kind == "note":
        return ("note", one, claim)
    return ("broken", tuple((house, dice.randint(1, 6)) for house in HOUSES if house == one or dice.random() < 0.6))


class AllTogether(unittest.TestCase):
    def test_as_it_is_told_once_more(self):
        # A fixed beginning: the same states and letters each time.
        dice = random.Random(10)
        for turn in range(6000):
            house, other = dice.sample(HOUSES, 2)
            ahead, letter = any_state(dice, house), any_letter(dice)
            kept = copy.deepcopy((ahead, letter))
            told = takes_letter(ahead, house, other, letter)
            self.assertEqual((ahead, letter), kept)
            self.assertEqual(repr(told), repr(HouseTold(ahead, house).take(other, letter)))
            self.well_made(ahead, house, told)

    def well_made(self, ahead, house, told):
        behind, sent = told
        self.assertIs(is_state(FULL, house, behind), True)
        self.assertIs(type(sent), list)
        for tie, letter in sent:
            self.assertIn(tie, behind[5])
            self.assertIs(is_letter(FULL, letter), True)
        for wanted in HOUSES:
            # What a house knows of another never goes back in one life.
            self.assertIs(is_nearer(label_in(ahead, house, wanted), label_in(behind, house, wanted)), False)


if __name__ == "__main__":
    unittest.main()
