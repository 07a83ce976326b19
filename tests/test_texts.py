import copy
import random
import unittest

from askedways.runs import end_of, run_of
from askedways.texts import deed_text, letter_text, net_text, run_text, state_text, world_text
from askedways.worlds import fresh_world
from kinds import APART, BIG, FULL, LINE, SQUARE, TWO, drawn_net, drawn_run, drawn_world
from telling import letter_line, net_lines, run_lines, state_lines, words, world_lines

THOUSAND = int("9" * 1000)


def ended(lines):
    return "".join([line + "\n" for line in lines])


class Texts(unittest.TestCase):
    def check(self, text, write, *given):
        kept = copy.deepcopy(given)
        for again in range(2):
            told = write(*given)
            self.assertIs(type(told), str)
            self.assertEqual(told, text)
        self.assertEqual(given, kept)


class Nets(Texts):
    def test_houses_then_pairs(self):
        self.check("house a\nhouse b\npair a b\n", net_text, TWO)
        self.check("house ann\nhouse bob\nhouse cyd\npair ann bob\npair bob cyd\n", net_text, LINE)

    def test_without_pairs(self):
        self.check("house ann\nhouse bob\nhouse cyd\n", net_text, APART)

    def test_names_that_are_words_of_the_texts(self):
        self.check("house house\nhouse pair\npair house pair\n", net_text, (("house", "pair"), (("house", "pair"),)))


class States(Texts):
    def test_fresh(self):
        self.check("ann up 0 0\n", state_text, "ann", ("up", 0, 0, (), (), ()))

    def test_ties_then_rows_then_seen(self):
        state = ("up", 3, 12, (("bob", 4, 1, "bob"), ("cyd", 10, 22, "bob"), ("dan", 2, None, None)),
                 (("ann", 12), ("bob", 1), ("bob", 20)), ("bob", "eve"))
        self.check("ann up 3 12\ntie bob\ntie eve\nrow bob 4 1 bob\nrow cyd 10 22 bob\nrow dan 2 - -\nseen ann 12\nseen bob 1\n"
                   "seen bob 20\n", state_text, "ann", state)

    def test_down(self):
        self.check("bob down 0 0\n", state_text, "bob", ("down", 0, 0, ()))
        self.check("bob down 7 1\nknown ann 3\nknown cyd 11\n", state_text, "bob", ("down", 7, 1, (("ann", 3), ("cyd", 11))))

    def test_numbers_of_many_figures(self):
        for number in (BIG, THOUSAND):
            self.check(f"ann up {number} {number}\ntie bob\nrow bob {number} {number} bob\nseen ann {number}\n", state_text, "ann",
                       ("up", number, number, (("bob", number, number, "bob"),), (("ann", number),), ("bob",)))


class Letters(Texts):
    def test_each_kind(self):
        self.check("ask ann 3 cyd 0 10 0", letter_text, ("ask", "ann", 3, "cyd", 0, (10, 0)))
        self.check("answer ann cyd 10 4", letter_text, ("answer", "ann", "cyd", (10, 4)))
        self.check("broken ann:1", letter_text, ("broken", (("ann", 1),)))
        self.check("broken ann:1 bob:22 eve:3", letter_text, ("broken", (("ann", 1), ("bob", 22), ("eve", 3))))
        self.check("note cyd 1 2", letter_text, ("note", "cyd", (1, 2)))

    def test_numbers_of_many_figures(self):
        for number in (BIG, THOUSAND):
            self.check(f"ask ann {number} cyd {number} {number} {number}", letter_text,
                       ("ask", "ann", number, "cyd", number, (number, number)))
            self.check(f"broken ann:{number}", letter_text, ("broken", (("ann", number),)))


class Worlds(Texts):
    def test_fresh(self):
        self.check("ann up 0 0\nbob up 0 0\ncyd up 0 0\n", world_text, LINE, fresh_world(LINE))

    def test_states_then_letters_by_ways(self):
        note, answer = ("note", "bob", (1, 0)), ("answer", "ann", "cyd", (2, 3))
        world = ((("up", 1, 0, (), (), ("bob",)), ("down", 2, 0, (("ann", 1),)), ("up", 0, 0, (), (), ())),
                 ((note, answer), (), (), (note,)))
        self.check("ann up 1 0\ntie bob\nbob down 2 0\nknown ann 1\ncyd up 0 0\nway ann bob note bob 1 0\nway ann bob answer ann cyd 2 3\n"
                   "way cyd bob note bob 1 0\n", world_text, LINE, world)


class Deeds(Texts):
    def test_each_kind(self):
        for word in ("find", "lose", "ask", "fail", "note"):
            self.check(f"{word} ann bob", deed_text, (word, "ann", "bob"))
        for word in ("take", "drop", "twice"):
            self.check(f"{word} ann bob 0", deed_text, (word, "ann", "bob", 0))
            self.check(f"{word} ann bob {BIG}", deed_text, (word, "ann", "bob", BIG))
        for word in ("stop", "up"):
            self.check(f"{word} ann", deed_text, (word, "ann"))

    def test_of_any_names_also_one_twice(self):
        self.check("find zoe zoe", deed_text, ("find", "zoe", "zoe"))
        self.check("up up", deed_text, ("up", "up"))
        self.check("take take take 10", deed_text, ("take", "take", "take", 10))


class Runs(Texts):
    def test_without_deeds(self):
        for rule in ("kept", "wait", "bare"):
            self.check(f"house a\nhouse b\npair a b\nrule {rule}\n", run_text, (rule, TWO, ()))

    def test_with_some(self):
        deeds = (("find", "a", "b"), ("ask", "a", "b"), ("take", "b", "a", 0), ("stop", "a"), ("up", "a"))
        self.check("house a\nhouse b\npair a b\nrule kept\nfind a b\nask a b\ntake b a 0\nstop a\nup a\n", run_text,
                   run_of("kept", TWO, deeds))


class AllTogether(Texts):
    def test_as_they_are_told_once_more_over_drawn_worlds_and_runs(self):
        dice = random.Random(30)
        for at in range(60):
            net = dice.choice((TWO, LINE, SQUARE, FULL, drawn_net(dice)))
            run = drawn_run(dice, ("kept", "wait", "bare")[at % 3], SQUARE, 30)
            self.check(ended(run_lines(run)), run_text, run)
            for net, world in ((net, drawn_world(dice, net)), (SQUARE, end_of(run))):
                self.check(ended(world_lines(net, world)), world_text, net, world)
                self.check(ended(net_lines(net)), net_text, net)
                for house, state in zip(net[0], world[0]):
                    self.check(ended(state_lines(house, state)), state_text, house, state)
                for letters in world[1]:
                    for letter in letters:
                        self.check(letter_line(letter), letter_text, letter)
            for deed in run[2]:
                self.check(words(*deed), deed_text, deed)


if __name__ == "__main__":
    unittest.main()
