import copy
import random
import unittest

from askedways.errors import Full, NoDeed, NoRun, Unknown
from askedways.field import Field
from askedways.labels import is_nearer
from askedways.parcels import Parcels, comes_nearer
from askedways.runs import end_of
from kinds import BIG, FULL, LINE, SQUARE, TWO, WEIGHTS, changed_at, deeds_in, drawn_run, odd, other_kinds, things_of_other_kinds_in
from telling import WorldTold, way_told
from test_search import RING
from test_steps import STOPPED, TIED

FOUND = TIED + (("ask", "ann", "cyd"), ("take", "bob", "ann", 0), ("take", "cyd", "bob", 0), ("take", "bob", "cyd", 0),
                ("take", "ann", "bob", 0))
NO_NUMBERS = (None, True, False, -1, "0", "", "ann", (0,), [0], {}, {0: 0}, (), [], BIG, -BIG)


class Case(unittest.TestCase):
    def moved(self, parcels, number, word, house):
        self.assertEqual(repr(parcels.move(number)), repr(word))
        self.assertEqual((parcels.parcels()[number][0], parcels.parcels()[number][2]), (house, word))

    def unknown(self, ask, *things):
        for thing in things:
            with self.assertRaises(Unknown) as caught:
                ask(thing)
            self.assertIsNone(caught.exception.name)

    def trail(self, parcels, number, *stages):
        for again in range(2):
            told = parcels.trail(number)
            self.assertEqual(repr(told), repr(list(stages)))
            # The list is the asker's own.
            told.append("changed")
            told[0] = None


class Made(Case):
    def test_of_a_rule_a_net_and_deeds(self):
        for rule in ("kept", "wait", "bare"):
            for begun in (FOUND, list(FOUND), FOUND[:3]):
                parcels = Parcels(rule, LINE, begun=begun)
                self.assertEqual(repr(parcels.run()), repr((rule, LINE, tuple(begun))))
                self.assertEqual(repr(parcels.world()), repr(end_of((rule, LINE, tuple(begun)))))
                self.assertEqual((len(parcels), parcels.parcels()), (0, []))
            self.assertEqual(Parcels(rule, LINE).run(), (rule, LINE, ()))

    def test_refused(self):
        for at, why, begun in ((0, "kind", [None]), (4, "tie", TIED + TIED[:1]), (9, "letter", FOUND + FOUND[5:6]), (1, "kind", (TIED[0], list(TIED[1]))),
                               (60, "many", (("stop", "ann"), ("up", "ann")) * 30 + (None,))):
            with self.assertRaises(NoRun) as caught:
                Parcels("kept", LINE, begun=begun)
            self.assertEqual((caught.exception.at, caught.exception.why), (at, why))

    def test_a_list_changed_later(self):
        begun = list(FOUND)
        parcels = Parcels("kept", LINE, begun=begun)
        begun.clear()
        self.assertEqual(parcels.run()[2], FOUND)

    def test_begun_by_its_name(self):
        with self.assertRaises(TypeError):
            Parcels("kept", LINE, FOUND)

    def test_its_methods_stand_in_the_class_itself(self):
        for name in ("do", "send", "move", "trail", "parcels", "world", "run", "twin", "__len__"):
            self.assertIn(name, vars(Parcels))


class Doing(Case):
    def test_as_a_field(self):
        parcels, field = Parcels("kept", LINE), Field("kept", LINE)
        for deed in FOUND:
            self.assertIsNone(parcels.do(deed))
            field.do(deed)
            self.assertEqual((parcels.run(), parcels.world()), (field.run(), field.world()))

    def test_refused_as_there(self):
        parcels = Parcels("kept", LINE, begun=FOUND)
        number = parcels.send("ann", "cyd")
        for why, deed in (("tie", ("find", "ann", "bob")), ("row", ("fail", "ann", "bob")), ("up", ("up", "ann")), ("letter", ("take", "ann", "bob", 0))):
            with self.assertRaises(NoDeed) as caught:
                parcels.do(deed)
            self.assertEqual((caught.exception.why, caught.exception.at), (why, None))
        for thing in [*other_kinds(), *things_of_other_kinds_in(("find", "ann", "bob"))]:
            with self.assertRaises(NoDeed) as caught:
                parcels.do(thing)
            self.assertEqual((caught.exception.why, caught.exception.at), ("kind", None))
        self.assertEqual(parcels.run()[2], FOUND)
        self.assertEqual((parcels.parcels(), number), ([("ann", "cyd", "on")], 0))

    def test_many(self):
        parcels = Parcels("kept", LINE, begun=(("stop", "ann"), ("up", "ann")) * 30)
        for thing in (("stop", "ann"), None, ("find", "zoe", "zoe")):
            with self.assertRaises(NoDeed) as caught:
                parcels.do(thing)
            self.assertEqual((caught.exception.why, caught.exception.at), ("many", None))
        self.assertEqual(len(parcels.run()[2]), 60)


class Sending(Case):
    def test_numbers(self):
        parcels = Parcels("kept", LINE, begun=FOUND)
        for at, (house, wanted) in enumerate((("ann", "cyd"), ("ann", "cyd"), ("cyd", "ann"), ("bob", "ann"), ("ann", "bob"))):
            self.assertEqual(repr(parcels.send(house, wanted)), repr(at))
            self.assertEqual(len(parcels), at + 1)
            self.assertEqual(parcels.parcels()[at], (house, wanted, "on"))

    def test_full_at_the_thirty_first(self):
        parcels = Parcels("kept", LINE, begun=FOUND)
        for at in range(30):
            self.assertEqual(parcels.send("ann", "cyd" if at % 2 else "bob"), at)
        for again in range(2):
            with self.assertRaises(Full):
                parcels.send("ann", "cyd")
        # Wherever they are now.
        for at in range(30):
            for again in range(4):
                parcels.move(at)
        self.assertEqual({word for house, wanted, word in parcels.parcels()}, {"there", "lost"})
        with self.assertRaises(Full):
            parcels.send("bob", "cyd")
        self.assertEqual((len(parcels), len(parcels.parcels())), (30, 30))
        self.assertEqual(len(parcels.twin()), 30)

    def test_at_a_house_that_is_down(self):
        parcels = Parcels("kept", LINE, begun=FOUND + (("stop", "ann"),))
        parcels.send("ann", "cyd")
        self.moved(parcels, 0, "lost", "ann")

    def test_what_is_told_is_the_askers_own(self):
        parcels = Parcels("kept", LINE, begun=FOUND)
        parcels.send("ann", "cyd")
        told = parcels.parcels()
        told[0] = None
        told.append(None)
        self.assertEqual(parcels.parcels(), [("ann", "cyd", "on")])
        told = parcels.parcels()
        parcels.move(0)
        self.assertEqual(told, [("ann", "cyd", "on")])


class Moving(Case):
    def parcels(self, *more, rule="kept", begun=FOUND, house="ann", wanted="cyd"):
        parcels = Parcels(rule, LINE, begun=begun + more)
        parcels.send(house, wanted)
        return parcels

    def test_moved_on_and_there(self):
        parcels = self.parcels()
        self.moved(parcels, 0, "on", "bob")
        self.moved(parcels, 0, "on", "cyd")
        self.moved(parcels, 0, "there", "cyd")
        self.moved(parcels, 0, "there", "cyd")
        self.trail(parcels, 0, ("ann", 9, (1, 2)), ("bob", 9, (1, 1)), ("cyd", 9, None))

    def test_there_though_the_wanted_house_is_down(self):
        parcels = self.parcels()
        parcels.move(0)
        parcels.move(0)
        parcels.do(("stop", "cyd"))
        self.moved(parcels, 0, "there", "cyd")

    def lost(self, parcels, house, *stages):
        self.moved(parcels, 0, "lost", house)
        self.moved(parcels, 0, "lost", house)
        self.trail(parcels, 0, *stages, (house,) + ((9,) if not stages else (parcels.trail(0)[-1][1],)) + (None,))

    def test_lost_where_its_house_is_down(self):
        parcels = self.parcels()
        parcels.do(("stop", "ann"))
        self.lost(parcels, "ann")

    def test_lost_where_it_has_no_row(self):
        self.lost(self.parcels(wanted="bob"), "ann")

    def test_lost_where_its_row_is_broken(self):
        parcels = self.parcels()
        parcels.do(("fail", "ann", "cyd"))
        self.lost(parcels, "ann")
        parcels = self.parcels()
        parcels.move(0)
        parcels.do(("fail", "bob", "cyd"))
        self.lost(parcels, "bob", ("ann", 9, (1, 2)))

    def test_lost_where_the_next_is_down(self):
        parcels = self.parcels()
        parcels.do(("stop", "bob"))
        self.lost(parcels, "ann")
        parcels = self.parcels(house="bob")
        parcels.do(("stop", "cyd"))
        self.lost(parcels, "bob")

    def test_lost_where_the_next_has_no_tie_with_it(self):
        parcels = self.parcels()
        parcels.do(("lose", "bob", "ann"))
        self.lost(parcels, "ann")
        parcels = self.parcels(house="bob")
        parcels.do(("lose", "cyd", "bob"))
        self.lost(parcels, "bob")

    def test_not_lost_where_another_tie_is_gone(self):
        parcels = self.parcels()
        parcels.do(("lose", "cyd", "bob"))
        self.moved(parcels, 0, "on", "bob")
        self.moved(parcels, 0, "lost", "bob")

    def test_lost_stays_lost(self):
        parcels = self.parcels()
        parcels.do(("lose", "bob", "ann"))
        self.moved(parcels, 0, "lost", "ann")
        parcels.do(("find", "bob", "ann"))
        self.moved(parcels, 0, "lost", "ann")
        parcels.send("ann", "cyd")
        self.moved(parcels, 1, "on", "bob")
        self.moved(parcels, 0, "lost", "ann")

    def test_each_by_itself(self):
        parcels = self.parcels()
        parcels.send("cyd", "ann")
        parcels.send("ann", "cyd")
        self.moved(parcels, 1, "on", "bob")
        self.assertEqual(parcels.parcels(), [("ann", "cyd", "on"), ("bob", "ann", "on"), ("ann", "cyd", "on")])
        self.moved(parcels, 2, "on", "bob")
        self.moved(parcels, 1, "on", "ann")
        self.moved(parcels, 1, "there", "ann")
        self.assertEqual(parcels.parcels(), [("ann", "cyd", "on"), ("ann", "ann", "there"), ("bob", "cyd", "on")])

    def test_round_by_bare(self):
        parcels = self.parcels(rule="bare", begun=STOPPED + RING[1])
        for again in range(5):
            self.moved(parcels, 0, "on", "bob")
            self.moved(parcels, 0, "on", "ann")
        self.assertEqual(len(parcels.trail(0)), 11)
        self.assertIs(comes_nearer(parcels.trail(0)), False)

    def test_unknown(self):
        parcels = Parcels("kept", LINE, begun=FOUND)
        for ask in (parcels.move, parcels.trail):
            self.unknown(ask, 0, 1, *NO_NUMBERS, *other_kinds())
        parcels.send("ann", "cyd")
        parcels.send("ann", "cyd")
        for ask in (parcels.move, parcels.trail):
            self.unknown(ask, 2, 3, *NO_NUMBERS, *[thing for thing in other_kinds() if repr(thing) not in ("0", "1")])
        self.assertEqual(parcels.parcels(), [("ann", "cyd", "on")] * 2)


class Trails(Case):
    def test_of_one_that_was_never_moved(self):
        parcels = Parcels("kept", LINE, begun=FOUND)
        parcels.send("ann", "cyd")
        self.trail(parcels, 0, ("ann", 9, None))
        parcels.do(("note", "ann", "cyd"))
        self.trail(parcels, 0, ("ann", 9, None))
        parcels.send("ann", "cyd")
        self.trail(parcels, 1, ("ann", 10, None))

    def test_moments_and_labels_of_then(self):
        parcels = Parcels("kept", LINE, begun=FOUND)
        parcels.send("ann", "cyd")
        parcels.do(("ask", "cyd", "bob"))
        self.moved(parcels, 0, "on", "bob")
        self.trail(parcels, 0, ("ann", 10, (1, 2)), ("bob", 10, None))
        parcels.do(("take", "bob", "cyd", 0))
        self.trail(parcels, 0, ("ann", 10, (1, 2)), ("bob", 10, None))
        self.moved(parcels, 0, "on", "cyd")
        self.trail(parcels, 0, ("ann", 10, (1, 2)), ("bob", 11, (2, 1)), ("cyd", 11, None))
        parcels.do(("stop", "bob"))
        self.moved(parcels, 0, "there", "cyd")
        self.trail(parcels, 0, ("ann", 10, (1, 2)), ("bob", 11, (2, 1)), ("cyd", 11, None))

    def test_of_one_that_was_lost(self):
        parcels = Parcels("kept", LINE, begun=FOUND)
        parcels.send("ann", "cyd")
        parcels.move(0)
        parcels.do(("lose", "bob", "cyd"))
        parcels.move(0)
        self.trail(parcels, 0, ("ann", 9, (1, 2)), ("bob", 9, None))


class Twins(Case):
    def test_goes_on_by_itself(self):
        parcels = Parcels("wait", LINE, begun=FOUND)
        parcels.send("ann", "cyd")
        parcels.move(0)
        twin = parcels.twin()
        self.assertIs(type(twin), Parcels)
        self.assertEqual((twin.run(), twin.world(), twin.parcels(), twin.trail(0), len(twin)),
                         (parcels.run(), parcels.world(), parcels.parcels(), parcels.trail(0), 1))
        twin.do(("fail", "bob", "cyd"))
        twin.send("cyd", "ann")
        self.moved(twin, 0, "lost", "bob")
        self.assertEqual((len(twin), len(parcels)), (2, 1))
        self.assertEqual(parcels.run()[2], FOUND)
        self.moved(parcels, 0, "on", "cyd")
        self.trail(parcels, 0, ("ann", 9, (1, 2)), ("bob", 9, (1, 1)), ("cyd", 9, None))
        self.trail(twin, 0, ("ann", 9, (1, 2)), ("bob", 9, None))
        parcels.do(("note", "ann", "cyd"))
        self.assertEqual(twin.run()[2], FOUND + (("fail", "bob", "cyd"),))
        self.assertEqual(repr(parcels.send("bob", "cyd")), "1")
        self.unknown(twin.move, 2)
        self.assertEqual(twin.run()[0], "wait")

    def test_of_a_twin(self):
        parcels = Parcels("kept", LINE, begun=FOUND)
        twin = parcels.twin().twin()
        parcels.send("ann", "cyd")
        self.assertEqual((len(parcels), len(twin)), (1, 0))


class ComesNearer(unittest.TestCase):
    TRAIL = [("ann", 9, (1, 2)), ("bob", 11, (2, 5)), ("cyd", 11, (2, 4)), ("dan", 12, None)]

    def check(self, answer, *things):
        for thing in things:
            kept = copy.deepcopy(thing)
            self.assertIs(comes_nearer(thing), answer, thing)
            self.assertEqual(repr(thing), repr(kept))

    def test_such_trails(self):
        self.check(True, self.TRAIL, self.TRAIL[3:], self.TRAIL[1:], [("ann", 0, None)], [("ann", BIG, None)],
                   [("ann", 0, (1, 0)), ("bob", 0, None)], [("zoe", 0, (1, BIG)), ("zoe", BIG, (BIG, BIG)), ("zoe", BIG, None)])

    def test_labels_not_nearer(self):
        for ahead, behind, answer in (((1, 2), (1, 1), True), ((1, 2), (1, 2), False), ((1, 2), (1, 3), False), ((1, 2), (2, 2), True), ((1, 2), (2, 9), True),
                                      ((2, 2), (1, 1), False), ((1, 1), (1, 0), True)):
            self.check(answer, [("ann", 1, ahead), ("bob", 1, behind), ("cyd", 1, None)])
            self.check(answer, [("eve", 1, (1, 9)), ("ann", 1, ahead), ("bob", 1, behind), ("cyd", 1, None)])

    def test_labels_of_other_kinds(self):
        for label in (None, (1, None), (0, 1), (1, -1), (True, 1), (1, True), [1, 1], (1,), (1, 1, 1), 1, "ann", (None, None), ("1", 1)):
            self.check(False, [("ann", 1, label), ("bob", 1, None)])
            self.check(False, [("eve", 1, (1, 9)), ("ann", 1, label), ("bob", 1, None)])
            self.check(False, [("ann", 1, label), ("bob", 1, (9, 0)), ("cyd", 1, None)])

    def test_the_last_ones_label(self):
        for label in ((1, 1), (9, 0), (), False, 0, [], ""):
            self.check(False, [("ann", 1, label)], [("ann", 1, (1, 2)), ("bob", 1, label)])

    def test_moments(self):
        for ahead, behind, answer in ((1, 1, True), (0, 1, True), (1, 0, False), (5, BIG, True), (BIG, 5, False)):
            self.check(answer, [("ann", ahead, (1, 1)), ("bob", behind, None)])
            self.check(answer, [("ann", ahead, (1, 2)), ("bob", behind, (1, 1)), ("bob", BIG, None)])
        for moment in (-1, True, False, None, "1", (1,)):
            self.check(False, [("ann", moment, None)], [("ann", moment, (1, 1)), ("bob", 9, None)])

    def test_names(self):
        for name in ("", "Ann", "annannann", "a1", None, 1, ("ann",), ["ann"], "a b"):
            self.check(False, [(name, 1, None)], [(name, 1, (1, 1)), ("bob", 9, None)], [("bob", 1, (1, 1)), (name, 9, None)])

    def test_none_and_tuples_and_lists_exchanged(self):
        self.check(False, [], (), tuple(self.TRAIL), [list(part) for part in self.TRAIL], [self.TRAIL], (self.TRAIL,), self.TRAIL[:3], self.TRAIL[::-1],
                   self.TRAIL + self.TRAIL, self.TRAIL + [None], {"a": self.TRAIL}, dict(enumerate(self.TRAIL)))
        for at, part in enumerate(self.TRAIL):
            for thing in (part[:2], part + (None,), list(part), (part,), None):
                self.check(False, self.TRAIL[:at] + [thing] + self.TRAIL[at + 1:])

    def test_with_one_thing_otherwise_at_each_place(self):
        for at, part in enumerate(self.TRAIL):
            for thing in changed_at(part, odd):
                changed = self.TRAIL[:at] + [thing] + self.TRAIL[at + 1:]
                self.check(nearer_told(changed), changed)

    def test_other_kinds(self):
        self.check(False, *other_kinds())
        for thing in other_kinds():
            self.check(False, [thing], self.TRAIL + [thing], [thing] + self.TRAIL)


def nearer_told(trail):
    """Point 34, of a list: whether it is a trail by which labels come nearer."""
    keys, moments = [], []
    for at, part in enumerate(trail):
        if type(part) is not tuple or len(part) != 3 or type(part[0]) is not str or not 1 <= len(part[0]) <= 8:
            return False
        if set(part[0]) - set("abcdefghijklmnopqrstuvwxyz") or type(part[1]) is not int or part[1] < 0:
            return False
        moments.append(part[1])
        if at == len(trail) - 1:
            if part[2] is not None:
                return False
        elif type(part[2]) is not tuple or [type(number) for number in part[2]] != [int, int] or part[2][0] < 1 or part[2][1] < 0:
            return False
        else:
            keys.append((part[2][0], -part[2][1]))
    return moments == sorted(moments) and keys == sorted(set(keys)) and len(trail) > 0


class Told:
    """Points 33 and 34 told once more, by dicts."""

    def __init__(self, rule, net, world):
        self.rule, self.net, self.now, self.done, self.all = rule, net, world, 0, []

    def do(self, deed):
        self.now = WorldTold(self.rule, self.net, self.now).do(deed)
        self.done += 1

    def send(self, house, wanted):
        self.all.append({"wanted": wanted, "word": "on", "trail": [[house, self.done, None]]})

    def move(self, number):
        parcel = self.all[number]
        told = WorldTold(self.rule, self.net, self.now)
        house, wanted = parcel["trail"][-1][0], parcel["wanted"]
        if parcel["word"] == "on":
            row = told.row(house, wanted)
            if house == wanted:
                parcel["word"] = "there"
            elif not told.is_up(house) or row is None or not told.is_up(row[3]) or house not in told.ties(row[3]):
                parcel["word"] = "lost"
            else:
                parcel["trail"][-1] = [house, self.done, row[1:3]]
                parcel["trail"].append([row[3], self.done, None])
        return parcel["word"]

    def trail(self, number):
        return [tuple(stage) for stage in self.all[number]["trail"]]

    def parcels(self):
        return [(parcel["trail"][-1][0], parcel["wanted"], parcel["word"]) for parcel in self.all]


class AllTogether(unittest.TestCase):
    def test_as_they_are_told_once_more_over_drawn_runs(self):
        ends, longest = {}, 0
        for at in range(90):
            dice = random.Random(at)
            net, rule = (TWO, LINE, SQUARE, FULL)[at % 4], ("kept", "wait", "bare")[at % 3]
            run = drawn_run(dice, rule, net, 60, dict(WEIGHTS, take=40, stop=1, lose=1))
            parcels, told = Parcels(rule, net), Told(rule, net, end_of((rule, net, ())))
            again = set()
            for deed in run[2]:
                parcels.do(deed)
                told.do(deed)
                if deed[0] == "up":
                    again.add(deed[1])
                if dice.random() < 0.5 and len(parcels) < 30:
                    house, wanted = dice.sample(net[0], 2)
                    self.assertEqual(parcels.send(house, wanted), len(told.all))
                    told.send(house, wanted)
                for number in range(len(parcels)):
                    if dice.random() < 0.15:
                        self.assertEqual(parcels.move(number), told.move(number))
                self.assertEqual(repr(parcels.parcels()), repr(told.parcels()))
            self.assertEqual(parcels.run(), run)
            for number, (house, wanted, word) in enumerate(parcels.parcels()):
                trail = parcels.trail(number)
                self.assertEqual(repr(trail), repr(told.trail(number)))
                ends[word] = ends.get(word, 0) + 1
                longest = max(longest, len(trail))
                # By "kept" labels come nearer; by "wait" as long as no house of it comes up anew.
                self.assertIs(comes_nearer(trail), nearer_told(trail))
                if rule == "kept" or (rule == "wait" and not again & {stage[0] for stage in trail}):
                    self.assertIs(comes_nearer(trail), True)
                    for one, other in zip(trail, trail[1:-1]):
                        self.assertIs(is_nearer(other[2], one[2]), True)
        self.assertEqual(set(ends), {"on", "there", "lost"})
        self.assertGreater(min(ends.values()), 50)
        self.assertGreater(longest, 2)

    def test_in_a_world_that_stays_a_parcel_goes_the_way(self):
        for at in range(20):
            net = (LINE, SQUARE, FULL)[at % 3]
            run = drawn_run(random.Random(at), "kept", net, 50)
            parcels = Parcels("kept", net, begun=run[2])
            for number, deed in enumerate([deed for deed in deeds_in(net, end_of(run)) if deed[0] == "ask"][:30]):
                parcels.send(deed[1], deed[2])
                word, houses = way_told(net, end_of(run), deed[1], deed[2])
                while parcels.move(number) == "on":
                    pass
                passed = [stage[0] for stage in parcels.trail(number)]
                self.assertEqual(passed, houses[:len(passed)])
                if parcels.parcels()[number][2] == "there":
                    self.assertEqual((word, passed), ("there", houses))


if __name__ == "__main__":
    unittest.main()
