import random
import unittest

from askedways.errors import NoText
from askedways.reader import read_deed, read_net, read_run, read_world
from askedways.runs import end_of
from askedways.texts import deed_text, net_text, run_text, world_text
from askedways.worlds import fresh_world, is_world
from kinds import APART, BIG, FULL, HOUSES, LINE, SQUARE, TWO, deeds_in, drawn_net, drawn_run, drawn_world, other_kinds
from telling import deed_told, judged_net, judged_run, judged_world

THOUSAND = int("9" * 1000)
# Names that are words of the texts, the first ones of lines among them.
WORDS = (("known", "row", "seen", "tie", "way"), tuple([(one, other) for one in ("known", "row", "seen", "tie", "way")
                                                       for other in ("known", "row", "seen", "tie", "way") if one < other]))
MORE_WORDS = (("ask", "down", "house", "pair", "up"), (("ask", "down"), ("ask", "up"), ("down", "house"), ("house", "pair"), ("pair", "up")))
RULE = (("kept", "rule"), (("kept", "rule"),))
NO_NUMBERS = ("", "00", "01", "007", "+1", "-1", "-0", "1-", "1.0", "1e3", "0x1", "a", "one", "1a", "-", "--", " 1", "1 ", "1_0", "1,0",
              "1" * 1001, "0" * 1000)


def lines(*rows):
    return "".join([row + "\n" for row in rows])


class Reading(unittest.TestCase):
    def check(self, thing, read, *given):
        for again in range(2):
            self.assertEqual(repr(read(*given)), repr(thing))

    def refuse(self, line, read, *given):
        with self.assertRaises(NoText) as caught:
            read(*given)
        self.assertEqual(repr(caught.exception.line), repr(line), given)

    def no_texts(self, read, *given):
        for thing in other_kinds():
            if not isinstance(thing, str):
                self.refuse(0, read, *given, thing)


class Nets(Reading):
    def test_read_back(self):
        for net in (TWO, LINE, APART, FULL, SQUARE, WORDS, MORE_WORDS, RULE, (HOUSES[:2], ())):
            self.check(net, read_net, net_text(net))

    def test_no_texts(self):
        self.no_texts(read_net)

    def test_no_signs_and_lines_that_lack(self):
        self.refuse(0, read_net, "")
        self.refuse(1, read_net, "house ann\n")

    def test_no_line_ends(self):
        self.refuse(0, read_net, "house ann")
        self.refuse(1, read_net, "house ann\nhouse bob")
        self.refuse(2, read_net, "house ann\nhouse bob\npair ann bob")
        self.refuse(0, read_net, "house ann house bob")
        self.refuse(0, read_net, "\n")
        self.refuse(0, read_net, " ")

    def test_empty_lines(self):
        self.refuse(0, read_net, "\nhouse ann\nhouse bob\n")
        self.refuse(1, read_net, "house ann\n\nhouse bob\n")
        self.refuse(2, read_net, "house ann\nhouse bob\n\n")
        self.refuse(1, read_net, "house ann\n\n")

    def test_houses_not_rising(self):
        self.refuse(1, read_net, lines("house bob", "house ann", "pair ann bob"))
        self.refuse(1, read_net, lines("house ann", "house ann"))
        self.refuse(2, read_net, lines("house ann", "house cyd", "house bob"))

    def test_six_houses(self):
        self.refuse(5, read_net, lines(*[f"house {name}" for name in "abcdef"]))
        self.check((("a", "b", "c", "d", "e"), ()), read_net, lines(*[f"house {name}" for name in "abcde"]))

    def test_no_names(self):
        for name in ("", "Ann", "ann1", "a b", "annannann", " ann", "ann ", "1", "-"):
            self.refuse(0, read_net, lines(f"house {name}", "house zoe"))

    def test_pairs_not_rising(self):
        net = ("house ann", "house bob", "house cyd")
        self.refuse(4, read_net, lines(*net, "pair bob cyd", "pair ann bob"))
        self.refuse(4, read_net, lines(*net, "pair ann bob", "pair ann bob"))
        self.refuse(4, read_net, lines(*net, "pair ann cyd", "pair ann bob"))
        self.refuse(3, read_net, lines(*net, "pair bob ann"))
        self.refuse(3, read_net, lines(*net, "pair ann ann"))
        self.refuse(3, read_net, lines(*net, "pair ann zoe"))
        self.refuse(3, read_net, lines(*net, "pair al ann"))

    def test_a_pair_ahead_of_two_houses_and_a_house_behind_a_pair(self):
        self.refuse(1, read_net, lines("house ann", "pair ann bob", "house bob"))
        self.refuse(0, read_net, lines("pair ann bob", "house ann", "house bob"))
        self.refuse(3, read_net, lines("house ann", "house bob", "pair ann bob", "house cyd"))
        # Judged by the lines ahead alone: that cyd comes later is nothing to it.
        self.refuse(2, read_net, lines("house ann", "house bob", "pair ann cyd", "house cyd"))

    def test_other_lines(self):
        for line in ("rule kept", "house", "pair", "pair ann", "pair ann bob cyd", "house bob cyd", "House cyd", "cyd", "tie ann",
                     "house  cyd", "pair  ann bob", "pair ann  bob", "pair ann bob ", " house cyd", "house cyd "):
            self.refuse(2, read_net, lines("house ann", "house bob", line))


class Worlds(Reading):
    HEADS = ("ann up 0 0", "bob up 0 0", "cyd up 0 0")

    def refuse_line(self, at, *rows):
        self.refuse(at, read_world, LINE, lines(*rows))

    def test_read_back(self):
        for net in (TWO, LINE, APART, FULL, SQUARE, WORDS, MORE_WORDS, RULE):
            self.check(fresh_world(net), read_world, net, world_text(net, fresh_world(net)))
            for at in range(20):
                world = drawn_world(random.Random(at), net, 9) if net[1] else fresh_world(net)
                self.check(world, read_world, net, world_text(net, world))

    def test_worlds_of_runs(self):
        for at in range(20):
            run = drawn_run(random.Random(at), "kept", FULL, 40)
            self.check(end_of(run), read_world, FULL, world_text(FULL, end_of(run)))

    def test_no_texts(self):
        self.no_texts(read_world, LINE)

    def test_no_signs_and_lines_that_lack(self):
        self.refuse(0, read_world, LINE, "")
        for many in range(3):
            self.refuse_line(many, *self.HEADS[:many])
        self.refuse_line(3, "ann up 0 0", "tie bob", "seen bob 1")

    def test_the_last_line_without_its_end(self):
        text = lines(*self.HEADS)
        self.refuse(2, read_world, LINE, text[:-1])
        self.refuse(0, read_world, LINE, "ann up 0 0")
        self.refuse(3, read_world, LINE, text + "way ann bob note ann 1 0")
        self.refuse(3, read_world, LINE, text + " ")

    def test_houses_not_in_order(self):
        self.refuse_line(0, *self.HEADS[::-1])
        self.refuse_line(1, self.HEADS[0], self.HEADS[2], self.HEADS[1])
        self.refuse_line(1, self.HEADS[0], *self.HEADS)
        self.refuse_line(3, *self.HEADS, self.HEADS[2])
        self.refuse_line(3, *self.HEADS, "dan up 0 0")

    def test_heads(self):
        for head in ("ann", "ann up", "ann up 0", "ann up 0 0 0", "ann Up 0 0", "ann on 0 0", "up 0 0", " ann up 0 0", "ann up 0 0 ",
                     "ann  up 0 0", "ann up  0 0", "bob up 0 0", "ann up down 0", "house ann", "tie bob", "seen ann 1", "known bob 1", ""):
            self.refuse_line(0, head, *self.HEADS[1:])

    def numbers(self, line, form, zero=True):
        """A line with numbers of whatever figures in the place of #."""
        for number in ("1", "10", str(BIG), "9" * 1000) + (("0",) if zero else ()):
            read_world(LINE, lines(*[row.replace("#", number) for row in form]))
        for number in NO_NUMBERS + (() if zero else ("0",)):
            self.refuse_line(line, *[row.replace("#", number) for row in form])

    def test_numbers(self):
        self.numbers(0, ("ann up # 0", *self.HEADS[1:]))
        self.numbers(0, ("ann up 0 #", *self.HEADS[1:]))
        self.numbers(0, ("ann down # 0", *self.HEADS[1:]))
        self.numbers(2, ("ann up 0 0", "tie bob", "row bob # 1 bob", *self.HEADS[1:]), zero=False)
        self.numbers(2, ("ann up 0 0", "tie bob", "row bob 1 # bob", *self.HEADS[1:]), zero=False)
        self.numbers(1, ("ann up 0 0", "row bob # - -", *self.HEADS[1:]), zero=False)
        self.numbers(1, ("ann up 0 0", "seen bob #", *self.HEADS[1:]), zero=False)
        self.numbers(1, ("ann down 0 0", "known bob #", *self.HEADS[1:]), zero=False)
        self.numbers(3, (*self.HEADS, "way ann bob ask ann # cyd 0 1 0"), zero=False)
        self.numbers(3, (*self.HEADS, "way ann bob ask ann 1 cyd # 1 0"))
        self.numbers(3, (*self.HEADS, "way ann bob ask ann 1 cyd 0 # 0"), zero=False)
        self.numbers(3, (*self.HEADS, "way ann bob ask ann 1 cyd 0 1 #"))
        self.numbers(3, (*self.HEADS, "way ann bob answer ann cyd # 0"), zero=False)
        self.numbers(3, (*self.HEADS, "way ann bob answer ann cyd 1 #"))
        self.numbers(3, (*self.HEADS, "way ann bob note ann # 0"), zero=False)
        self.numbers(3, (*self.HEADS, "way ann bob note ann 1 #"))
        self.numbers(3, (*self.HEADS, "way ann bob broken ann:#"), zero=False)
        self.numbers(3, (*self.HEADS, "way ann bob broken ann:1 bob:#"), zero=False)

    def test_numbers_of_many_figures_are_read_back(self):
        for number in (BIG, THOUSAND):
            ann = ("up", number, number, (("bob", number, number, "bob"), ("cyd", number, None, None)), (("ann", number),), ("bob",))
            letter = ("ask", "ann", number, "cyd", number, (number, number))
            world = ((ann, ("down", number, number, (("cyd", number),)), ("up", 0, 0, (), (), ())), ((letter,), (), (), ()))
            self.assertIs(is_world(LINE, world), True)
            self.check(world, read_world, LINE, world_text(LINE, world))

    def test_ties(self):
        for line in ("tie cyd", "tie ann", "tie zoe", "tie", "tie bob cyd", "tie  bob", "tie bob ", "Tie bob"):
            self.refuse_line(1, "ann up 0 0", line, *self.HEADS[1:])
        self.refuse_line(3, "ann up 0 0", "bob up 0 0", "tie cyd", "tie ann", "cyd up 0 0")
        self.refuse_line(3, "ann up 0 0", "bob up 0 0", "tie cyd", "tie cyd", "cyd up 0 0")

    def test_rows(self):
        for line in ("row ann 1 1 bob", "row zoe 1 1 bob", "row bob 1 1 cyd", "row bob 1 1 ann", "row bob 1 1 -", "row bob 1 - bob",
                     "row bob 1 1", "row bob 1 - - -", "row bob 1 - x", "row bob 1 x -", "row bob - - -", "row bob 1 -1 bob", "row", "row  1 1 bob"):
            self.refuse_line(2, "ann up 0 0", "tie bob", line, *self.HEADS[1:])

    def test_rows_not_rising(self):
        ann = ("ann up 0 0", "tie bob")
        self.refuse_line(3, *ann, "row cyd 1 1 bob", "row bob 1 1 bob", *self.HEADS[1:])
        self.refuse_line(3, *ann, "row cyd 1 1 bob", "row cyd 1 1 bob", *self.HEADS[1:])
        self.refuse_line(3, *ann, "row cyd 1 1 bob", "row cyd 2 2 bob", *self.HEADS[1:])
        self.refuse_line(3, *ann, "row cyd 1 - -", "row cyd 1 1 bob", *self.HEADS[1:])

    def test_a_next_that_is_no_tie(self):
        self.refuse_line(1, "ann up 0 0", "row bob 1 1 bob", "tie bob", *self.HEADS[1:])
        self.refuse_line(3, "ann up 0 0", "bob up 0 0", "tie ann", "row cyd 1 1 cyd", "cyd up 0 0")

    def test_seen(self):
        for line in ("seen zoe 1", "seen bob", "seen bob 1 1", "seen bob 0", "seen  1", "seen 1 bob"):
            self.refuse_line(1, "ann up 0 0", line, *self.HEADS[1:])
        self.refuse_line(2, "ann up 0 0", "seen bob 2", "seen bob 1", *self.HEADS[1:])
        self.refuse_line(2, "ann up 0 0", "seen bob 2", "seen bob 2", *self.HEADS[1:])
        self.refuse_line(2, "ann up 0 0", "seen bob 2", "seen ann 3", *self.HEADS[1:])
        # By the numbers, not by their signs.
        seen = read_world(LINE, lines("ann up 0 0", "seen bob 2", "seen bob 10", *self.HEADS[1:]))[0][0][4]
        self.assertEqual(seen, (("bob", 2), ("bob", 10)))
        self.refuse_line(2, "ann up 0 0", "seen bob 10", "seen bob 2", *self.HEADS[1:])

    def test_known(self):
        for line in ("known ann 1", "known zoe 1", "known bob", "known bob 0", "known bob 1 1", "tie bob", "row bob 1 - -", "seen bob 1"):
            self.refuse_line(1, "ann down 0 0", line, *self.HEADS[1:])
        self.refuse_line(2, "ann down 0 0", "known cyd 1", "known bob 1", *self.HEADS[1:])
        self.refuse_line(2, "ann down 0 0", "known cyd 1", "known cyd 2", *self.HEADS[1:])
        self.refuse_line(1, "ann up 0 0", "known bob 1", *self.HEADS[1:])

    def test_kinds_of_lines_not_in_order(self):
        self.refuse_line(3, "ann up 0 0", "tie bob", "row bob 1 1 bob", "tie bob", *self.HEADS[1:])
        self.refuse_line(2, "ann up 0 0", "seen bob 1", "tie bob", *self.HEADS[1:])
        self.refuse_line(2, "ann up 0 0", "seen bob 1", "row bob 1 - -", *self.HEADS[1:])
        self.refuse_line(4, *self.HEADS, "way ann bob note ann 1 0", "tie bob")
        self.refuse_line(4, *self.HEADS, "way ann bob note ann 1 0", "cyd up 0 0")

    def test_ways(self):
        for line in ("way ann cyd note ann 1 0", "way ann zoe note ann 1 0", "way ann ann note ann 1 0", "way ann bob", "way ann bob note",
                     "way ann bob note ann 1", "way ann bob note ann 1 0 0", "way ann bob note zoe 1 0", "way ann bob ask ann 1 ann 0 1 0",
                     "way ann bob ask ann 1 cyd 0 1", "way ann bob ask ann 1 cyd 0 1 0 0", "way ann bob answer ann ann 1 0",
                     "way ann bob answer ann cyd 1", "way ann bob answer ann cyd 1 -", "way ann bob note ann 1 -", "way ann bob broken",
                     "way ann bob broken ann", "way ann bob broken ann:", "way ann bob broken :1", "way ann bob broken ann:1 ann:2",
                     "way ann bob broken bob:1 ann:2", "way ann bob broken zoe:1", "way ann bob broken ann:1 ", "way ann bob broken  ann:1",
                     "way ann bob broken ann:1:1", "way ann bob broken ann 1", "way ann bob asks ann 1 cyd 0 1 0", "way ann bob up 0 0",
                     "way  bob note ann 1 0", "way ann bob  note ann 1 0", "Way ann bob note ann 1 0", "ann bob note ann 1 0", "way"):
            self.refuse_line(3, *self.HEADS, line)
        self.refuse_line(2, *self.HEADS[:2], "way ann bob note ann 1 0", self.HEADS[2])

    def test_ways_not_in_order(self):
        note = "note ann 1 0"
        read_world(LINE, lines(*self.HEADS, f"way ann bob {note}", f"way ann bob {note}", f"way cyd bob {note}"))
        self.refuse_line(4, *self.HEADS, f"way bob ann {note}", f"way ann bob {note}")
        self.refuse_line(5, *self.HEADS, f"way bob ann {note}", f"way bob cyd {note}", f"way bob ann {note}")

    def test_names_that_are_words_of_the_texts(self):
        net = WORDS
        heads = [f"{house} up 0 0" for house in net[0]]
        for at, house in enumerate(net[0]):
            other = "tie" if house != "tie" else "row"
            more = [f"tie {other}", f"row {other} 1 1 {other}", f"seen {house} 1"]
            read_world(net, lines(*heads[:at + 1], *more, *heads[at + 1:]))
            self.refuse(at + 1, read_world, net, lines(*heads[:at + 1], f"tie {house}", *heads[at + 1:]))
            self.refuse(at + 1, read_world, net, lines(*heads[:at + 1], heads[at], *heads[at + 1:]))
        known = [f"known {house} 2" for house in net[0][1:]]
        read_world(net, lines("known down 0 0", *known, *heads[1:]))
        self.refuse(5, read_world, net, lines(*heads, "way tie way"))
        self.check((fresh_world(net)[0], ((),) * 19 + ((("note", "way", (1, 0)),),)), read_world, net, lines(*heads, "way way tie note way 1 0"))

    def test_sixty_thousand_signs(self):
        rows = [f"seen bob {number}" for number in range(1, 4300)]
        text = lines("ann up 0 0", *rows, *self.HEADS[1:])
        self.assertGreater(len(text), 55000)
        self.assertLess(len(text), 60000)
        self.assertEqual(len(read_world(LINE, text)[0][0][4]), 4299)
        self.refuse(4300, read_world, LINE, lines("ann up 0 0", *rows, "seen bob 4299", *self.HEADS[1:]))
        rows = ["way ann bob note ann 1 0"] * 2300
        self.assertEqual(len(read_world(LINE, lines(*self.HEADS, *rows))[1][0]), 2300)


class Deeds(Reading):
    def test_read_back(self):
        for deed in [*deeds_in(LINE, fresh_world(LINE)), ("find", "zoe", "zoe"), ("up", "up"), ("take", "take", "take", BIG),
                     ("drop", "a", "b", THOUSAND), ("twice", "a", "abcdefgh", 0)]:
            self.check(deed, read_deed, deed_text(deed))

    def test_refused(self):
        for text in ("", " ", "find", "find ann", "find ann bob cyd", "find ann bob 0", "stop", "stop ann bob", "up ann 0", "take ann bob",
                     "take ann bob x", "take ann bob -1", "take ann bob 0 0", "take ann 0", "Find ann bob", "find Ann bob", "find ann annannann",
                     "find  bob", "find ann ", " find ann bob", "find ann  bob", "find ann bob\n", "\nfind ann bob", "find\nann bob", "stop ann\n",
                     "back", "rule kept", "house ann", "find ann 1", "take ann bob 0\n", "take 0 ann bob", "drop ann bob 00", "~"):
            self.refuse(0, read_deed, text)

    def test_numbers(self):
        for word in ("take", "drop", "twice"):
            for number in NO_NUMBERS:
                self.refuse(0, read_deed, f"{word} ann bob {number}")

    def test_no_texts(self):
        self.no_texts(read_deed)
        for thing in (("find", "ann", "bob"), ["find", "ann", "bob"], ("stop", "ann")):
            self.refuse(0, read_deed, thing)

    def test_as_it_is_told_once_more(self):
        dice = random.Random(31)
        words = ["find", "take", "twice", "stop", "up", "ask", "ann", "bob", "0", "12", "", "01", "-1", "Ann", "drop", "note"]
        read = 0
        for again in range(4000):
            row = [dice.choice(words) for at in range(dice.choice((2, 3, 3, 4)))]
            if deed_told(row) is None:
                self.refuse(0, read_deed, " ".join(row))
            else:
                read += 1
                self.check(deed_told(row), read_deed, " ".join(row))
        self.assertGreater(read, 100)


class Runs(Reading):
    NET = ("house a", "house b", "pair a b")
    HEAD = NET + ("rule kept",)

    def refuse_line(self, at, *rows):
        self.refuse(at, read_run, lines(*rows))

    def test_read_back(self):
        for rule in ("kept", "wait", "bare"):
            for net in (TWO, LINE, APART, WORDS, MORE_WORDS, RULE):
                self.check((rule, net, ()), read_run, run_text((rule, net, ())))
                run = drawn_run(random.Random(3), rule, net, 60)
                self.check(run, read_run, run_text(run))

    def test_no_texts(self):
        self.no_texts(read_run)

    def test_no_signs_and_lines_that_lack(self):
        self.refuse(0, read_run, "")
        self.refuse_line(1, "house a")
        self.refuse_line(2, "house a", "house b")
        self.refuse_line(3, *self.NET)

    def test_the_last_line_without_its_end(self):
        self.refuse(3, read_run, lines(*self.NET) + "rule kept")
        self.refuse(4, read_run, lines(*self.HEAD) + "find a b")
        self.refuse(4, read_run, lines(*self.HEAD) + " ")
        self.refuse(2, read_run, lines("house a", "house b") + "rule kept")

    def test_rules(self):
        for line in ("rule", "rule keep", "rule kept kept", "rule ", "rule  kept", "Rule kept", "rule Kept", "kept", "find a b", ""):
            self.refuse_line(3, *self.NET, line)
        self.refuse_line(4, *self.HEAD, "rule kept")
        self.refuse_line(1, "house a", "rule kept", "house b")
        self.refuse_line(0, "rule kept", *self.NET)

    def test_the_nets_lines_behind_the_rule(self):
        self.refuse_line(4, *self.HEAD, "house c")
        self.refuse_line(3, "house a", "house b", "rule kept", "pair a b")

    def test_the_nets_lines(self):
        self.refuse_line(1, "house b", "house a", "rule kept")
        self.refuse_line(2, "house a", "house b", "pair b a", "rule kept")

    def test_a_deed_that_cannot_be_done(self):
        self.refuse_line(4, *self.HEAD, "lose a b")
        self.refuse_line(5, *self.HEAD, "find a b", "find a b", "find b a")
        self.refuse_line(5, *self.HEAD, "find a b", "take b a 0")
        self.refuse_line(4, *self.HEAD, "up a")
        self.refuse_line(4, *self.HEAD, "find a a")
        self.refuse_line(4, *self.HEAD, "find a c")
        self.refuse_line(5, *self.HEAD, "stop a", "ask a b")

    def test_by_its_rule(self):
        deeds = ("find b a", "stop a", "up a")
        read_run(lines(*self.NET, "rule kept", *deeds))
        read_run(lines(*self.NET, "rule bare", *deeds))
        self.refuse_line(6, *self.NET, "rule wait", *deeds)

    def test_lines_that_are_no_deeds(self):
        for line in ("", " ", "find a", "find a b c", "find  a b", "find a b ", "Find a b", "take b a -1", "take b a 00", "back", "~"):
            self.refuse_line(5, *self.HEAD, "find a b", line, "find b a")

    def test_sixty_and_a_sixty_first(self):
        deeds = ("stop a", "up a") * 30
        self.assertEqual(len(read_run(lines(*self.HEAD, *deeds))[2]), 60)
        self.refuse_line(64, *self.HEAD, *deeds, "stop a")
        self.refuse_line(64, *self.HEAD, *deeds, "lose a b")
        self.refuse_line(64, *self.HEAD, *deeds, "")
        self.refuse_line(64, *self.HEAD, *deeds, "stop a", "nothing")


class Changed(Reading):
    """Texts of drawn things, changed at a line, and at signs, as they are judged line by line."""

    def changed(self, dice, rows):
        rows = list(rows)
        for again in range(dice.choice((1, 1, 2))):
            at, other = dice.randrange(len(rows)), dice.randrange(len(rows))
            how = dice.randrange(7)
            if how == 0 and len(rows) > 1:
                rows.pop(at)
            elif how == 1:
                rows.insert(at, rows[at])
            elif how == 2:
                rows[at], rows[other] = rows[other], rows[at]
            elif how == 3:
                rows.insert(at, rows[other])
            elif how == 4:
                rows[at] = rows[at][:dice.randrange(len(rows[at]) + 1)]
            elif how == 5:
                words = rows[at].split(" ")
                words[dice.randrange(len(words))] = dice.choice(("ann", "bob", "cyd", "0", "1", "2", "", "-", "tie", "up", "down"))
                rows[at] = " ".join(words)
            else:
                words = rows[at].split(" ")
                words.insert(dice.randrange(len(words) + 1), dice.choice(("ann", "1", "")))
                rows[at] = " ".join(words)
        text = lines(*rows)
        return text if dice.random() < 0.9 else text[:-1] if dice.random() < 0.7 else text + dice.choice(("x", " ", "\n", "ann up 0 0"))

    def test_nets(self):
        self.compare(read_net, judged_net, net_text, lambda dice: (drawn_net(dice),), lambda net: ())

    def test_worlds(self):
        def drawn(dice):
            net = dice.choice((TWO, LINE, SQUARE, WORDS, MORE_WORDS))
            return (net, drawn_world(dice, net, 5))
        self.compare(read_world, judged_world, world_text, drawn, lambda net, world: (net,))

    def test_runs(self):
        self.compare(read_run, judged_run, run_text, lambda dice: (drawn_run(dice, "kept", LINE, 20),), lambda run: ())

    def compare(self, read, judge, write, draw, given):
        dice = random.Random(32)
        answers = set()
        for at in range(60):
            drawn = draw(dice)
            text = write(*drawn)
            self.assertIsNone(judge(*given(*drawn), text))
            for again in range(12):
                changed = self.changed(dice, text.split("\n")[:-1])
                line = judge(*given(*drawn), changed)
                answers.add(line)
                if line is None:
                    # What is read is just what is so written.
                    self.assertEqual(write(*given(*drawn), read(*given(*drawn), changed)), changed)
                else:
                    self.refuse(line, read, *given(*drawn), changed)
        self.assertIn(None, answers)
        self.assertGreater(len(answers), 6)


if __name__ == "__main__":
    unittest.main()
