import copy
import unittest

from askedways.nets import is_net, neighbours_of, ways_of
from kinds import APART, FULL, LINE, SQUARE, TWO, changed_at, listed, odd, one_off, other_kinds

NETS = (TWO, LINE, APART, FULL, SQUARE, (("a", "b"), ()), (("abcdefgh", "z"), (("abcdefgh", "z"),)))


class IsNet(unittest.TestCase):
    def check(self, answer, *things):
        for thing in things:
            with self.subTest(thing=thing):
                self.assertIs(is_net(thing), answer)

    def test_nets(self):
        self.check(True, *NETS)

    def test_how_many_houses(self):
        names = ("a", "b", "c", "d", "e", "f", "g")
        for many in range(8):
            self.assertIs(is_net((names[:many], ())), 2 <= many <= 5)
        self.check(False, (("a",), (("a", "a"),)), (names[:6], (("a", "b"),)))

    def test_all_pairs_none_and_some(self):
        houses, pairs = FULL
        for many in range(11):
            self.check(True, (houses, pairs[:many]), (houses, pairs[many:]))

    def test_houses_not_rising(self):
        self.check(False, (("b", "a"), ()), (("a", "a"), ()), (("a", "c", "b"), ()), (("a", "b", "b"), ()))
        self.check(False, (("b", "a"), (("a", "b"),)), (("ab", "a"), ()))

    def test_names_that_are_none(self):
        self.check(False, (("", "b"), ()), (("a", "B"), ()), (("a", "b c"), ()), (("a", "b\n"), ()))
        self.check(False, (("a", "abcdefghi"), ()), (("a", None), ()), ((1, 2), ()), ((("a",), ("b",)), ()))
        self.check(False, (("a", "b", 3), ()), ((True, "b"), ()), (("a", ["b"]), ()), (("a", {}), ()))

    def test_pairs_not_rising(self):
        houses = ("a", "b", "c")
        self.check(False, (houses, (("b", "c"), ("a", "b"))), (houses, (("a", "c"), ("a", "b"))))
        self.check(False, (houses, (("a", "b"), ("a", "b"))))

    def test_pairs_that_are_none(self):
        houses = ("a", "b", "c")
        self.check(False, (houses, (("b", "a"),)), (houses, (("a", "a"),)), (houses, (("a", "d"),)))
        self.check(False, (houses, (("", "a"),)), (houses, (("a",),)), (houses, (("a", "b", "c"),)), (houses, ((),)))
        self.check(False, (houses, ("ab",)), (houses, (None,)), (houses, (1,)), (houses, ((1, 2),)))
        self.check(False, (houses, (("a", None),)), (houses, ((None, "a"),)), (houses, (("a", ["b"]),)))
        self.check(False, (houses, (("a", "b"), None)), (houses, (("a", "b"), ("a", 1))), (houses, ((0, "b"),)))

    def test_lists_are_no_tuples(self):
        for net in NETS:
            self.check(False, *changed_at(net, listed))

    def test_parts_too_many_or_too_few(self):
        self.check(False, (), (("a", "b"),), (("a", "b"), (), ()), (("a", "b"), (), None))
        self.check(False, (("a", "b"), (("a", "b", "b"),)), (("a", "b"), None), (None, ()))
        self.check(False, {("a", "b"): ()}, (("a", "b"), {}), ("ab", ()), (("a", "b"), ""))

    def test_other_kinds(self):
        self.check(False, *other_kinds())
        for thing in other_kinds():
            self.check(False, (thing, ()), (thing, (("a", "b"),)), (("a", "b"), (thing,)), (("zzz", thing), ()))
            self.check(thing == (), (("a", "b"), thing))

    def test_what_is_told_is_a_truth_whatever_is_changed(self):
        for net in (LINE, SQUARE):
            for made in (odd, one_off):
                for thing in changed_at(net, made):
                    self.assertIn(is_net(thing), (True, False))
                    self.assertIsInstance(is_net(thing), bool)

    def test_what_is_handed_in_stays(self):
        for thing in other_kinds() + list(changed_at(LINE, listed)):
            ahead = copy.deepcopy(thing)
            is_net(thing)
            self.assertEqual(thing, ahead)


class Neighbours(unittest.TestCase):
    def test_first_second_and_none(self):
        self.assertEqual(neighbours_of(LINE, "ann"), ["bob"])
        self.assertEqual(neighbours_of(LINE, "bob"), ["ann", "cyd"])
        self.assertEqual(neighbours_of(LINE, "cyd"), ["bob"])
        for house in APART[0]:
            self.assertEqual(neighbours_of(APART, house), [])
        self.assertEqual(neighbours_of((("a", "b", "c"), (("a", "b"),)), "c"), [])

    def test_rising(self):
        self.assertEqual(neighbours_of(SQUARE, "dan"), ["ann", "cyd", "eve"])
        self.assertEqual(neighbours_of(SQUARE, "ann"), ["bob", "dan"])
        for house in FULL[0]:
            self.assertEqual(neighbours_of(FULL, house), [other for other in FULL[0] if other != house])

    def test_the_list_is_the_askers_own(self):
        told = neighbours_of(SQUARE, "dan")
        self.assertIs(type(told), list)
        told.append("zoe")
        told[0] = None
        self.assertEqual(neighbours_of(SQUARE, "dan"), ["ann", "cyd", "eve"])


class Ways(unittest.TestCase):
    def test_each_pair_both_ways_about(self):
        self.assertEqual(ways_of(TWO), [("a", "b"), ("b", "a")])
        self.assertEqual(ways_of(LINE), [("ann", "bob"), ("bob", "ann"), ("bob", "cyd"), ("cyd", "bob")])
        self.assertEqual(ways_of(APART), [])
        self.assertEqual(ways_of((("a", "b", "c"), (("a", "c"),))), [("a", "c"), ("c", "a")])

    def test_rising_each_once(self):
        for net in NETS:
            ways = ways_of(net)
            self.assertEqual(ways, sorted(set(ways)))
            self.assertEqual(len(ways), 2 * len(net[1]))
            for one, other in ways:
                self.assertIn((min(one, other), max(one, other)), net[1])

    def test_kinds(self):
        told = ways_of(LINE)
        self.assertIs(type(told), list)
        for way in told:
            self.assertIs(type(way), tuple)

    def test_the_list_is_the_askers_own(self):
        ahead = ways_of(SQUARE)
        told = ways_of(SQUARE)
        told.pop()
        told[0] = 7
        self.assertEqual(ways_of(SQUARE), ahead)

    def test_what_is_handed_in_stays(self):
        net = (("a", "b", "c"), (("a", "b"), ("b", "c")))
        ways_of(net)
        neighbours_of(net, "b")
        self.assertEqual(net, (("a", "b", "c"), (("a", "b"), ("b", "c"))))


if __name__ == "__main__":
    unittest.main()
