import random
import unittest

from askedways.desk import Desk
from askedways.errors import NoBack, NoDeed, NoRow, NoText, NoWorld, TooMany, Unknown
from askedways.runs import run_of
from askedways.texts import deed_text, run_text
from kinds import APART, FULL, LINE, SQUARE, TWO, WEIGHTS, drawn_run, other_kinds
from telling import (WorldTold, faults_told, has_kept_told, has_ring, is_still_told, once_told, pedigrees_told, run_lines, search_told,
                     state_lines, till_told, way_told, words, world_lines, worlds_told)
from test_search import RING
from test_steps import STOPPED, TIED, drawn_doings

FOUND = TIED + (("ask", "ann", "cyd"), ("take", "bob", "ann", 0), ("take", "cyd", "bob", 0), ("take", "bob", "cyd", 0),
                ("take", "ann", "bob", 0))


class Desks(unittest.TestCase):
    def desk(self, deeds=(), rule="kept", net=LINE):
        return Desk(run_text(run_of(rule, net, deeds)))

    def check(self, desk, row, answer):
        told = desk.say(row)
        self.assertIs(type(told), str)
        self.assertEqual(told, answer)

    def asked(self, desk, row, answer):
        """A row that only asks: the desk is as it was behind it, and answers alike."""
        ahead = desk.say("run"), desk.say("world")
        for again in range(2):
            self.check(desk, row, answer)
        self.assertEqual((desk.say("run"), desk.say("world")), ahead)

    def refuse(self, error, desk, *rows, **fields):
        for row in rows:
            ahead = desk.say("run"), desk.say("world")
            with self.assertRaises(error) as caught:
                desk.say(row)
            self.assertIs(type(caught.exception), error)
            for name, worth in fields.items():
                self.assertEqual(repr(getattr(caught.exception, name)), repr(worth))
            # What is refused changes nothing.
            self.assertEqual((desk.say("run"), desk.say("world")), ahead)


class Made(Desks):
    def test_of_a_text_of_a_run(self):
        for rule in ("kept", "wait", "bare"):
            for net in (TWO, LINE, APART, FULL):
                run = (rule, net, ())
                self.assertEqual(Desk(run_text(run)).say("run") + "\n", run_text(run))

    def test_refused_as_read_run_refuses_it(self):
        for line, text in ((0, ""), (0, "house a"), (1, "house a\n"), (2, "house a\nhouse b\n"), (3, "house a\nhouse b\nrule kept\nstop c\n"),
                           (3, "house a\nhouse b\nrule kept\nstop a"), (0, "run")):
            with self.assertRaises(NoText) as caught:
                Desk(text)
            self.assertEqual(caught.exception.line, line)
        for thing in other_kinds():
            if not isinstance(thing, str):
                with self.assertRaises(NoText) as caught:
                    Desk(thing)
                self.assertEqual(repr(caught.exception.line), "0")

    def test_its_method_stands_in_the_class_itself(self):
        self.assertIn("say", vars(Desk))


class Doing(Desks):
    def test_deeds(self):
        desk = self.desk()
        for at, deed in enumerate(FOUND):
            self.check(desk, deed_text(deed), "ok")
            self.assertEqual(desk.say("run"), run_text(("kept", LINE, FOUND[:at + 1]))[:-1])

    def test_each_word(self):
        desk = self.desk()
        for row in ("find ann bob", "find bob ann", "ask ann bob", "twice bob ann 0", "drop bob ann 1", "take bob ann 0", "take ann bob 0",
                    "note ann bob", "fail ann bob", "lose ann bob", "stop ann", "up ann"):
            self.check(desk, row, "ok")

    def test_refused_with_each_why(self):
        desk = self.desk(FOUND)
        for why, row in (("kind", "find ann ann"), ("kind", "find ann cyd"), ("kind", "stop zoe"), ("tie", "find ann bob"), ("up", "up ann"),
                         ("letter", "take ann bob 0"), ("row", "fail ann bob"), ("kind", "ask ann zoe")):
            self.refuse(NoDeed, desk, row, why=why, at=None)
        desk.say("stop bob")
        self.refuse(NoDeed, desk, "ask bob cyd", "find bob ann", "stop bob", why="down", at=None)
        desk = self.desk(FOUND + (("stop", "bob"),), rule="wait")
        self.refuse(NoDeed, desk, "up bob", why="wait", at=None)

    def test_many(self):
        desk = self.desk((("stop", "ann"), ("up", "ann")) * 30)
        self.refuse(NoDeed, desk, "stop ann", "up ann", "find zoe zoe", why="many", at=None)
        desk.say("back")
        self.check(desk, "up ann", "ok")

    def test_what_read_deed_refuses(self):
        self.refuse(NoRow, self.desk(), "find ann", "find ann bob 0", "find Ann bob", "take bob ann", "take bob ann x", "take bob ann 00",
                    "take bob ann -1", "stop", "up ann bob", "find ann annannann", "drop bob ann " + "1" * 1001)

    def test_back(self):
        desk = self.desk(FOUND)
        for many in range(len(FOUND), 0, -1):
            self.assertEqual(desk.say("run"), run_text(("kept", LINE, FOUND[:many]))[:-1])
            self.check(desk, "back", "ok")
        self.refuse(NoBack, desk, "back", "back")


class NoRows(Desks):
    ROWS = ("find ann bob", "back", "run", "world", "state ann", "way ann bob", "fall ann bob", "pedigree ann bob", "ring", "faults", "still",
            "asked ann bob", "till ann bob", "search stop ann / up ann", "take ann bob 0", "stop ann")

    def test_other_kinds(self):
        desk = self.desk(FOUND)
        self.refuse(NoRow, desk, *other_kinds())
        for row in self.ROWS:
            self.refuse(NoRow, desk, [row], (row,), row.split(" "), tuple(row.split(" ")), {row: row}, {"a": row})

    def test_line_ends(self):
        desk = self.desk(FOUND)
        for row in self.ROWS:
            self.refuse(NoRow, desk, row + "\n", "\n" + row, row + "\n" + row, row.replace(" ", "\n", 1) + "\n")

    def test_blanks(self):
        desk = self.desk(FOUND)
        for row in self.ROWS:
            self.refuse(NoRow, desk, " " + row)
            if not row.startswith("state"):
                self.refuse(NoRow, desk, row + " ")
        self.refuse(NoRow, desk, "state ann ", "state  ann", "way ann  bob", "way  ann bob", "find ann  bob", "find  ann bob", "search  stop ann", "",
                    " ", "  ", "   ")

    def test_words_too_many_and_too_few(self):
        desk = self.desk(FOUND)
        self.refuse(NoRow, desk, "back 1", "run ann", "world ann", "state", "state ann bob", "way", "way ann", "way ann bob cyd", "fall ann",
                    "fall ann bob cyd", "pedigree ann", "pedigree", "pedigree ann bob 3", "ring cyd", "faults ann", "still ann", "asked ann",
                    "asked ann bob cyd", "till ann", "till", "till ann bob cyd", "search", "find", "stop ann bob")

    def test_first_words_that_are_none(self):
        desk = self.desk(FOUND)
        self.refuse(NoRow, desk, "Run", "RUN", "runs", "house ann", "pair ann bob", "rule kept", "ann", "known ann 1", "tie ann", "answer ann bob",
                    "help", "quit", "~", "way:ann:bob", "none", "kept", "backs")

    def test_no_row_goes_ahead_of_all_else(self):
        desk = self.desk((("stop", "ann"), ("up", "ann")) * 30)
        self.refuse(NoRow, desk, "stop", "stop ann bob", "find ann", "take ann bob -1", "state zoe zoe", "way zoe", "asked zoe")


class Told(Desks):
    def test_run_and_world(self):
        desk = self.desk(FOUND)
        self.asked(desk, "run", "house ann\nhouse bob\nhouse cyd\npair ann bob\npair bob cyd\nrule kept\nfind ann bob\nfind bob ann\nfind bob cyd\n"
                   "find cyd bob\nask ann cyd\ntake bob ann 0\ntake cyd bob 0\ntake bob cyd 0\ntake ann bob 0")
        self.asked(desk, "world", "ann up 1 1\ntie bob\nrow cyd 1 2 bob\nseen ann 1\nbob up 0 0\ntie ann\ntie cyd\nrow ann 1 1 ann\nrow cyd 1 1 cyd\n"
                   "seen ann 1\ncyd up 1 0\ntie bob\nrow ann 1 2 bob\nseen ann 1")
        desk.say("note ann cyd")
        self.assertEqual(desk.say("world").split("\n")[-1], "way ann bob note cyd 1 2")
        self.asked(self.desk(), "world", "ann up 0 0\nbob up 0 0\ncyd up 0 0")

    def test_state(self):
        desk = self.desk(FOUND + (("stop", "cyd"),))
        self.asked(desk, "state ann", "ann up 1 1\ntie bob\nrow cyd 1 2 bob\nseen ann 1")
        self.asked(desk, "state cyd", "cyd down 1 0\nknown ann 2")
        self.asked(self.desk(), "state bob", "bob up 0 0")

    def test_state_unknown(self):
        desk = self.desk(FOUND)
        for name in ("zoe", "", "Ann", "annannann", "1", "ann:", "~"):
            self.refuse(Unknown, desk, f"state {name}", name=name)

    def test_way(self):
        desk = self.desk(FOUND)
        self.asked(desk, "way ann cyd", "there ann bob cyd")
        self.asked(desk, "way bob cyd", "there bob cyd")
        self.asked(desk, "way ann bob", "lost ann")
        desk.say("fail bob cyd")
        self.asked(desk, "way ann cyd", "lost ann bob")
        desk = self.desk(STOPPED + RING[1], rule="bare")
        self.asked(desk, "way ann cyd", "round ann bob ann")

    def test_fall(self):
        desk = self.desk(FOUND)
        self.asked(desk, "fall ann cyd", "1:2 1:1")
        self.asked(desk, "fall bob cyd", "1:1")
        self.asked(desk, "fall ann bob", "-")
        desk = self.desk(STOPPED + RING[1], rule="bare")
        self.asked(desk, "fall ann cyd", "1:2 1:3")

    def test_pedigree(self):
        desk = self.desk(FOUND)
        self.asked(desk, "pedigree ann cyd", "ann:9:1:2 bob:8:1:1 cyd:7:1:0")
        self.asked(desk, "pedigree bob ann", "bob:6:1:1 ann:5:1:0")
        self.asked(desk, "pedigree ann bob", "-")
        # Of the moment behind all deeds.
        desk.say("stop ann")
        self.asked(desk, "pedigree ann cyd", "-")
        self.asked(desk, "pedigree bob ann", "bob:6:1:1 ann:5:1:0")
        desk.say("back")
        self.asked(desk, "pedigree ann cyd", "ann:9:1:2 bob:8:1:1 cyd:7:1:0")

    def test_two_houses_refused(self):
        for deeds in ((), FOUND, FOUND + (("stop", "ann"),)):
            desk = self.desk(deeds)
            for word in ("way", "fall", "pedigree", "asked", "till"):
                self.refuse(NoRow, desk, f"{word} ann ann", f"{word} zoe zoe", f"{word}  ", f"{word} Ann Ann")
                self.refuse(Unknown, desk, f"{word} zoe bob", f"{word} zoe yan", name="zoe")
                self.refuse(Unknown, desk, f"{word} ann zoe", f"{word} ann zoe", name="zoe")
                self.refuse(Unknown, desk, f"{word}  ann", f"{word} ann ", f"{word}  zoe", name="")
                self.refuse(Unknown, desk, f"{word} yan zoe", name="yan")

    def test_ring(self):
        self.asked(self.desk(), "ring", "-")
        self.asked(self.desk(STOPPED + RING[1], rule="bare"), "ring", "cyd ann bob")
        self.asked(self.desk(STOPPED + RING[1], rule="kept"), "ring", "-")

    def test_faults(self):
        self.asked(self.desk(FOUND), "faults", "none")
        self.asked(self.desk(STOPPED + RING[1], rule="bare"), "faults", "row ann cyd\nletter bob cyd 0")
        self.asked(self.desk(STOPPED + RING[1][:1], rule="bare"), "faults", "row ann cyd\nletter bob cyd 0")

    def test_still(self):
        self.asked(self.desk(), "still", "yes")
        self.asked(self.desk(FOUND), "still", "yes")
        self.asked(self.desk(FOUND[:8]), "still", "no")
        self.asked(self.desk(FOUND[:3]), "still", "no")

    def test_asked(self):
        desk = self.desk(TIED)
        self.asked(desk, "asked ann cyd", "4 4")
        self.asked(desk, "asked ann bob", "2 2")
        self.asked(self.desk(), "asked ann cyd", "0 0")
        self.refuse(NoWorld, self.desk(FOUND[:8]), "asked ann cyd", "asked cyd ann")
        self.refuse(NoWorld, self.desk((("stop", "ann"),)), "asked ann cyd")
        self.asked(self.desk((("stop", "ann"),)), "asked cyd ann", "0 0")

    def test_till(self):
        self.asked(self.desk(TIED), "till ann cyd", "found 1 ann bob cyd")
        self.asked(self.desk(FOUND), "till ann cyd", "found 0 ann bob cyd")
        self.asked(self.desk(TIED[:2]), "till ann cyd", "lack 1 ann bob")
        self.asked(self.desk(TIED[:2]), "till cyd ann", "lack 1 cyd")
        self.refuse(NoWorld, self.desk(FOUND[:8]), "till ann cyd", "till cyd ann")
        self.refuse(NoWorld, self.desk((("stop", "ann"),)), "till ann cyd")

    def test_till_where_numbers_were_forgotten(self):
        # By "bare" cyd comes up without its number; what ann and bob know of it is more.
        deeds = FOUND + (("lose", "bob", "cyd"), ("take", "ann", "bob", 0), ("stop", "cyd"), ("up", "cyd"))
        self.refuse(NoWorld, self.desk(deeds, rule="bare"), "till ann cyd")
        self.asked(self.desk(deeds, rule="bare"), "asked ann cyd", "1 1")
        self.asked(self.desk(deeds, rule="kept"), "till ann cyd", "lack 1 ann bob")

    def test_asked_as_by_kept_whatever_the_rule(self):
        for rule in ("kept", "wait", "bare"):
            desk = self.desk(TIED, rule=rule)
            self.asked(desk, "asked ann cyd", "4 4")
            self.asked(desk, "till ann cyd", "found 1 ann bob cyd")
            self.asked(desk, "way ann cyd", "lost ann")


class Search(Desks):
    def test_a_ring(self):
        desk = self.desk(STOPPED, rule="bare")
        self.asked(desk, "search up bob / find bob ann / note ann cyd", "ring 4")
        self.asked(desk, "search note ann cyd / find bob ann / up bob", "ring 4")
        self.asked(self.desk(STOPPED + RING[1], rule="bare"), "search stop cyd", "ring 0")

    def test_none(self):
        self.asked(self.desk(), "search stop ann", "none 2")
        self.asked(self.desk(), "search up ann", "none 1")
        self.asked(self.desk(), "search stop ann / stop bob / stop cyd", "none 8")
        self.asked(self.desk(STOPPED, rule="wait"), "search up bob", "none 4")

    def test_by_first_letters_alone(self):
        deeds = STOPPED + (("up", "bob"), ("find", "bob", "ann"), ("ask", "ann", "bob"), ("note", "ann", "cyd"))
        self.asked(self.desk(deeds, rule="bare"), "search stop cyd", "ring 2")

    def test_eight_and_nine(self):
        finds = [f"find {one} {other}" for one, other in FULL[1]]
        desk = self.desk(net=FULL)
        self.asked(desk, "search " + " / ".join(finds[:8]), "none 256")
        self.refuse(NoRow, desk, "search " + " / ".join(finds[:9]))

    def test_too_many(self):
        finds = [f"find {one} {other}" for one, other in FULL[1]]
        self.refuse(TooMany, self.desk(net=FULL), "search " + " / ".join(finds[:7] + ["ask ann bob"]), most=300)
        desk = self.desk(TIED)
        self.asked(desk, "search ask cyd bob / ask ann cyd / note bob ann / lose ann bob / find bob cyd", "none 300")
        self.refuse(TooMany, desk, "search ask cyd ann / ask ann bob / fail bob cyd / note ann cyd", most=300)

    def test_behind_sixty_deeds(self):
        desk = self.desk((("stop", "ann"), ("up", "ann")) * 30)
        self.asked(desk, "search stop ann / up ann", "none 3")

    def test_refused(self):
        self.refuse(NoRow, self.desk(FOUND), "search", "search ", "search  ", "search /", "search / ", "search stop", "search stop ann /", "search / stop ann",
                    "search stop ann / ", "search stop ann  / up ann", "search stop ann /up ann", "search stop ann/ up ann", "search stop ann / / up ann",
                    "search stop ann up ann", "search stop ann / stop ann", "search stop ann / up ann / stop ann", "search stop zoe", "search find ann ann",
                    "search find ann cyd", "search take ann bob 0", "search drop ann bob 0", "search twice ann bob 0", "search stop ann / take ann bob 0",
                    "search run", "search Stop ann", "search stop ann / back", "search stop ann, up ann", "search up bob / find bob zoe", " search stop ann",
                    "search stop ann\n")
        self.asked(self.desk(), "search ask ann cyd", "none 2")


class AllTogether(Desks):
    def test_a_desk_made_of_what_run_told_answers_alike(self):
        for at in range(12):
            dice = random.Random(at)
            net, rule = (TWO, LINE, SQUARE, FULL)[at % 4], ("kept", "wait", "bare")[at % 3]
            run = drawn_run(dice, rule, net, 40)
            desk = Desk(run_text(run))
            other = Desk(desk.say("run") + "\n")
            house, wanted = dice.sample(net[0], 2)
            for row in ("run", "world", "ring", "faults", "still", f"state {house}", f"way {house} {wanted}", f"fall {house} {wanted}",
                        f"pedigree {house} {wanted}", f"search stop {house}", "back", "run", "world", "back", f"pedigree {house} {wanted}"):
                self.assertEqual(said(desk, row), said(other, row))

    def test_as_it_is_told_once_more_over_drawn_runs(self):
        answers = set()
        weights = dict(WEIGHTS, take=60, lose=1, stop=1)
        for at in range(60):
            dice = random.Random(at)
            net, rule = (TWO, LINE, SQUARE, FULL, LINE)[at % 5], ("kept", "wait", "bare")[at % 3]
            run = drawn_run(dice, rule, net, dice.randint(0, 50), weights)
            desk = Desk(run_text(run))
            doings = drawn_doings(dice, net, dice.randint(1, 3))
            house, other = dice.sample(net[0], 2)
            for row, answer in told(run, house, other, doings):
                if isinstance(answer, str):
                    self.asked(desk, row, answer)
                else:
                    self.refuse(answer, desk, row)
                answers.add((row.split(" ")[0], answer.split(" ")[0].split("\n")[0] if isinstance(answer, str) else answer))
        for row, answer in (("way", "there"), ("way", "lost"), ("pedigree", "-"), ("still", "yes"), ("still", "no"), ("till", "found"), ("till", "lack"),
                            ("till", NoWorld), ("asked", NoWorld), ("search", "none"), ("search", TooMany), ("faults", "none")):
            self.assertIn((row, answer), answers)


def said(desk, row):
    try:
        return desk.say(row)
    except (NoRow, NoDeed, NoBack, NoWorld, Unknown, TooMany) as refusal:
        return type(refusal)


def told(run, house, other, doings):
    """What each row that asks is answered by, or the refusal, by the words of the document."""
    rule, net, deeds = run
    world = worlds_told(run)[-1]
    state = dict(zip(net[0], world[0]))[house]
    word, houses = way_told(net, world, house, other)
    rows = [WorldTold(rule, net, world).row(passed, other) for passed in houses[:-1]]
    pedigree = pedigrees_told(run)[-1].get((house, other))
    faults = faults_told(net, world)
    may_ask = is_still_told(net, world) and state[0] == "up"
    found = search_told(run, doings, False, 300)
    yield "run", "\n".join(run_lines(run))
    yield "world", "\n".join(world_lines(net, world))
    yield f"state {house}", "\n".join(state_lines(house, state))
    yield f"way {house} {other}", words(word, *houses)
    yield f"fall {house} {other}", " ".join([f"{row[1]}:{row[2]}" for row in rows]) or "-"
    yield f"pedigree {house} {other}", " ".join([":".join(map(str, part)) for part in pedigree or ()]) or "-"
    if not has_ring(net, world):
        yield "ring", "-"
    yield "faults", "\n".join([words(*fault) for fault in faults]) or "none"
    yield "still", "yes" if is_still_told(net, world) else "no"
    yield f"asked {house} {other}", words(*once_told(net, world, house, other)[1:]) if may_ask else NoWorld
    if may_ask and has_kept_told(net, world):
        word, behind, asks, houses = till_told(net, world, house, other)
        yield f"till {house} {other}", words(word, asks, *houses)
    else:
        yield f"till {house} {other}", NoWorld
    text = "search " + " / ".join([words(*doing) for doing in doings])
    yield text, words(found[0], found[1] if found[0] == "ring" else len(found[1])) if found else TooMany


if __name__ == "__main__":
    unittest.main()
