import copy
import random
import unittest

from askedways.nets import ways_of
from askedways.posts import posts_of
from askedways.runs import end_of, run_of, worlds_of
from kinds import FULL, LINE, SQUARE, TWO, WEIGHTS, drawn_run

TIED = (("find", "ann", "bob"), ("find", "bob", "ann"), ("find", "bob", "cyd"), ("find", "cyd", "bob"))
ASK = ("ask", "ann", 1, "cyd", 0, (1, 0))
ON = ("ask", "ann", 1, "cyd", 0, (1, 1))
ANSWER = ("answer", "ann", "cyd", (1, 0))
BACK = ("answer", "ann", "cyd", (1, 1))
FOUND = TIED + (("ask", "ann", "cyd"), ("take", "bob", "ann", 0), ("take", "cyd", "bob", 0), ("take", "bob", "cyd", 0),
                ("take", "ann", "bob", 0))
POSTS = [((4, 0), "ann", "bob", ASK, 5), ((5, 0), "bob", "cyd", ON, 6), ((6, 0), "cyd", "bob", ANSWER, 7),
         ((7, 0), "bob", "ann", BACK, 8)]


class Posts(unittest.TestCase):
    def check(self, deeds, *posts, rule="kept", net=LINE):
        run = run_of(rule, net, deeds)
        kept = copy.deepcopy(run)
        for again in range(2):
            told = posts_of(run)
            self.assertEqual(repr(told), repr(list(posts)))
            told.append("changed")
            told[0] = None
        self.assertEqual(run, kept)

    def test_of_no_deeds(self):
        for rule in ("kept", "wait", "bare"):
            for net in (TWO, LINE, FULL):
                self.check((), rule=rule, net=net)

    def test_deeds_that_send_none(self):
        self.check(TIED + (("stop", "ann"), ("up", "ann"), ("lose", "bob", "ann")))
        self.check((("ask", "ann", "bob"), ("ask", "bob", "ann")))

    def test_deeds_that_send_one_each_taken(self):
        self.check(FOUND, *POSTS)

    def test_still_on_their_way(self):
        for size in range(4, 9):
            self.check(FOUND[:size], *[post[:4] + (post[4] if post[4] < size else None,) for post in POSTS[:size - 4]])

    def test_deeds_that_send_several(self):
        letter = ("ask", "bob", 1, "cyd", 0, (1, 0))
        self.check(TIED + (("ask", "bob", "cyd"),), ((4, 0), "bob", "ann", letter, None), ((4, 1), "bob", "cyd", letter, None))
        note, broken = ("note", "cyd", (1, 1)), ("broken", (("cyd", 2),))
        self.check(FOUND + (("note", "bob", "cyd"), ("fail", "bob", "cyd"), ("take", "cyd", "bob", 1)), *POSTS,
                   ((9, 0), "bob", "ann", note, None), ((9, 1), "bob", "cyd", note, None),
                   ((10, 0), "bob", "ann", broken, None), ((10, 1), "bob", "cyd", broken, 11))

    def test_a_take_that_sends_several(self):
        deeds = [("find", "ann", "bob"), ("find", "bob", "ann"), ("find", "bob", "cyd"), ("find", "bob", "dan"),
                 ("ask", "ann", "eve"), ("take", "bob", "ann", 0)]
        on = ("ask", "ann", 1, "eve", 0, (1, 1))
        self.check(deeds, ((4, 0), "ann", "bob", ("ask", "ann", 1, "eve", 0, (1, 0)), 5),
                   ((5, 0), "bob", "cyd", on, None), ((5, 1), "bob", "dan", on, None), net=FULL)

    def test_taken_where_there_is_no_tie(self):
        self.check((TIED[0], ("ask", "ann", "cyd"), ("take", "bob", "ann", 0)), ((1, 0), "ann", "bob", ASK, 2))

    def test_dropped(self):
        self.check(FOUND[:5] + (("drop", "bob", "ann", 0),), ((4, 0), "ann", "bob", ASK, 5))

    def test_lost_by_lose_and_not_those_the_other_way_about(self):
        two, own = ("ask", "ann", 2, "cyd", 0, (2, 0)), ("ask", "bob", 1, "cyd", 0, (1, 0))
        self.check(TIED + (("ask", "ann", "cyd"), ("ask", "ann", "cyd"), ("ask", "bob", "cyd"), ("lose", "bob", "ann")),
                   ((4, 0), "ann", "bob", ASK, 7), ((5, 0), "ann", "bob", two, 7),
                   ((6, 0), "bob", "ann", own, None), ((6, 1), "bob", "cyd", own, None))

    def test_a_lose_that_also_sends(self):
        note = ("note", "cyd", (1, 2))
        self.check(FOUND + (("note", "ann", "cyd"), ("lose", "bob", "cyd")), *POSTS,
                   ((9, 0), "ann", "bob", note, None), ((10, 0), "bob", "ann", ("broken", (("cyd", 2),)), None))

    def test_lost_by_stop_from_all_sides_and_not_those_from_it(self):
        own, far = ("ask", "bob", 1, "cyd", 0, (1, 0)), ("ask", "cyd", 1, "ann", 0, (1, 0))
        self.check(TIED + (("ask", "ann", "cyd"), ("ask", "cyd", "ann"), ("ask", "bob", "cyd"), ("stop", "bob"),
                           ("ask", "ann", "cyd"), ("take", "cyd", "bob", 0)),
                   ((4, 0), "ann", "bob", ASK, 7), ((5, 0), "cyd", "bob", far, 7), ((6, 0), "bob", "ann", own, None),
                   ((6, 1), "bob", "cyd", own, 9), ((8, 0), "ann", "bob", ("ask", "ann", 2, "cyd", 0, (2, 0)), None),
                   ((9, 0), "cyd", "bob", ("answer", "bob", "cyd", (2, 0)), None))

    def test_to_a_house_that_is_down(self):
        self.check(TIED + (("stop", "bob"), ("ask", "ann", "cyd"), ("drop", "bob", "ann", 0)),
                   ((5, 0), "ann", "bob", ASK, 6))

    def test_there_twice_has_a_post_of_its_own(self):
        self.check(FOUND[:5] + (("twice", "bob", "ann", 0),),
                   ((4, 0), "ann", "bob", ASK, None), ((5, 0), "ann", "bob", ASK, None))

    def test_either_of_them_taken_first(self):
        twice = FOUND[:5] + (("twice", "bob", "ann", 0),)
        on = ((6, 0), "bob", "cyd", ON, None)
        self.check(twice + (("take", "bob", "ann", 0),),
                   ((4, 0), "ann", "bob", ASK, 6), ((5, 0), "ann", "bob", ASK, None), on)
        self.check(twice + (("take", "bob", "ann", 1),),
                   ((4, 0), "ann", "bob", ASK, None), ((5, 0), "ann", "bob", ASK, 6), on)
        self.check(twice + (("take", "bob", "ann", 1), ("drop", "bob", "ann", 0)),
                   ((4, 0), "ann", "bob", ASK, 7), ((5, 0), "ann", "bob", ASK, 6), on)

    def test_there_three_times(self):
        deeds = FOUND[:5] + (("twice", "bob", "ann", 0), ("twice", "bob", "ann", 1), ("drop", "bob", "ann", 1))
        self.check(deeds, ((4, 0), "ann", "bob", ASK, None), ((5, 0), "ann", "bob", ASK, 7), ((6, 0), "ann", "bob", ASK, None))

    def test_overtaken(self):
        two = ("ask", "ann", 2, "bob", 0, (2, 0))
        self.check(TIED + (("ask", "ann", "cyd"), ("ask", "ann", "bob"), ("take", "bob", "ann", 1), ("take", "bob", "ann", 0)),
                   ((4, 0), "ann", "bob", ASK, 7), ((5, 0), "ann", "bob", two, 6),
                   ((6, 0), "bob", "ann", ("answer", "ann", "bob", (1, 0)), None),
                   ((7, 0), "bob", "cyd", ("ask", "ann", 1, "cyd", 0, (2, 1)), None))


def told_once_more(run):
    """The posts of a run as its worlds show them: what is on each way ahead of each deed and behind it."""
    rule, net, deeds = run
    worlds = worlds_of(run)
    posts = []
    flights = {way: [] for way in ways_of(net)}
    for at, deed in enumerate(deeds):
        word, house = deed[:2]
        for way, records in flights.items():
            gone = []
            if way[1] == house and (word == "stop" or (word == "lose" and way[0] == deed[2])):
                gone = list(records)
            elif word in ("take", "drop") and way == (deed[2], house):
                gone = [records[deed[3]]]
            for record in gone:
                record[4] = at
            records[:] = [record for record in records if record[4] is None]
        place = 0
        for way, letters in zip(ways_of(net), worlds[at + 1][1]):
            for letter in letters[len(flights[way]):]:
                record = [(at, place), way[0], way[1], letter, None]
                place += 1
                flights[way].append(record)
                posts.append(record)
    return [tuple(record) for record in posts]


class AllTogether(unittest.TestCase):
    def runs(self):
        # Letters lost, there twice and left lying are drawn more often here.
        weights = dict(WEIGHTS, twice=6, drop=3, take=12, lose=3, stop=2)
        for at in range(60):
            net = (TWO, LINE, SQUARE, FULL)[at % 4]
            yield drawn_run(random.Random(at), ("kept", "wait", "bare")[at % 3], net, 60, weights)

    def test_as_the_worlds_show_them(self):
        for run in self.runs():
            posts = posts_of(run)
            self.assertEqual(repr(posts), repr(told_once_more(run)))
            self.assertEqual([post[0] for post in posts], sorted(set([post[0] for post in posts])))

    def test_those_not_taken_are_just_the_letters_that_fly_at_the_end(self):
        some = 0
        for run in self.runs():
            for way, letters in zip(ways_of(run[1]), end_of(run)[1]):
                left = [letter for post, one, other, letter, taken in posts_of(run) if (one, other) == way and taken is None]
                self.assertEqual(left, list(letters))
                some += len(left)
        self.assertGreater(some, 100)

    def test_taken_behind_the_deed_that_put_it_by_one_that_takes(self):
        words = set()
        for run in self.runs():
            for post, one, other, letter, taken in posts_of(run):
                if taken is not None:
                    self.assertLess(post[0], taken)
                    self.assertEqual(run[2][taken][1], other)
                    words.add(run[2][taken][0])
        self.assertEqual(words, {"take", "drop", "lose", "stop"})


if __name__ == "__main__":
    unittest.main()
