import unittest

from askedways.errors import (
    Full, NoBack, NoDeed, NoRow, NoRun, NoText, NoWay, NoWorld, TooMany, Unknown, WayError,
)
from kinds import BIG, other_kinds

REFUSALS = (NoRun, NoDeed, NoWorld, NoWay, NoText, NoRow, Unknown, NoBack, TooMany, Full)
PYTHONS_OWN = (ValueError, KeyError, IndexError, LookupError, OverflowError, ArithmeticError, TypeError, RuntimeError)
UNDER = {
    WayError: (ValueError,),
    NoRun: (WayError, ValueError), NoDeed: (WayError, ValueError), NoWorld: (WayError, ValueError),
    NoWay: (WayError, ValueError), NoText: (WayError, ValueError), NoRow: (WayError, ValueError),
    Unknown: (KeyError, LookupError), NoBack: (IndexError, LookupError),
    TooMany: (OverflowError, ArithmeticError), Full: (OverflowError, ArithmeticError),
}
FIELDS = ((NoText, "line"), (Unknown, "name"), (TooMany, "most"), (NoDeed, "why"))


class Errors(unittest.TestCase):
    def test_each_is_under_just_what_is_told(self):
        for error in (WayError,) + REFUSALS:
            for above in (WayError,) + REFUSALS + PYTHONS_OWN:
                with self.subTest(error=error.__name__, above=above.__name__):
                    self.assertIs(issubclass(error, above), above == error or above in UNDER[error])

    def test_each_is_directly_under_what_is_told(self):
        for error in (WayError,) + REFUSALS:
            self.assertEqual(error.__bases__, (UNDER[error][0],))

    def test_those_without_fields_are_made_with_a_text(self):
        for error in (WayError, NoWorld, NoWay, NoRow, NoBack, Full):
            with self.subTest(error=error.__name__):
                with self.assertRaises(error) as caught:
                    raise error("some words")
                self.assertIn("some words", str(caught.exception))

    def test_those_with_one_field(self):
        for error, field in FIELDS:
            for thing in other_kinds():
                made = error(thing)
                self.assertEqual(repr(getattr(made, field)), repr(thing))
                self.assertEqual(vars(made)[field], thing)

    def test_the_fields_of_a_run(self):
        for thing in other_kinds():
            self.assertEqual(vars(NoRun(thing, "kind")), {"at": thing, "why": "kind"})
            self.assertEqual(vars(NoRun(7, thing)), {"at": 7, "why": thing})
            self.assertEqual(vars(NoRun(at=thing, why=[1])), {"at": thing, "why": [1]})
        self.assertEqual(NoRun(BIG, None).at, BIG)

    def test_the_fields_of_a_deed(self):
        self.assertEqual(vars(NoDeed("tie")), {"why": "tie", "at": None})
        self.assertIs(NoDeed("tie").at, None)
        for thing in other_kinds():
            self.assertEqual(vars(NoDeed(thing)), {"why": thing, "at": None})
            self.assertEqual(vars(NoDeed("row", thing)), {"why": "row", "at": thing})
            self.assertEqual(vars(NoDeed("row", at=thing)), {"why": "row", "at": thing})
            self.assertEqual(vars(NoDeed(why="row", at=thing)), {"why": "row", "at": thing})

    def test_no_other_fields(self):
        self.assertEqual(list(vars(NoText(3))), ["line"])
        self.assertEqual(list(vars(Unknown("zoe"))), ["name"])
        self.assertEqual(list(vars(TooMany(300))), ["most"])

    def test_arguments_are_called_as_told(self):
        self.assertEqual(NoText(line=3).line, 3)
        self.assertEqual(Unknown(name="zoe").name, "zoe")
        self.assertEqual(TooMany(most=4).most, 4)

    def test_what_is_kept_is_a_copy(self):
        for error, field in FIELDS:
            handed = [1, ([2], {"a": [3]})]
            made = error(handed)
            handed[1][0].append(4)
            handed[1][1]["a"].append(5)
            handed.append(6)
            self.assertEqual(getattr(made, field), [1, ([2], {"a": [3]})])
        at, why = [1], {"a": []}
        run, deed = NoRun(at, why), NoDeed(why, at)
        at.append(2)
        why["a"].append(3)
        for made in (run, deed):
            self.assertEqual((made.at, made.why), ([1], {"a": []}))

    def test_nothing_handed_in_is_changed(self):
        handed = [1, ([2], {"a": [3]})]
        made = NoText(handed)
        made.line.append(7)
        made.line[1][0].append(8)
        self.assertEqual(handed, [1, ([2], {"a": [3]})])

    def test_they_are_caught_by_what_they_are_under(self):
        for made in (NoRun(0, "many"), NoDeed("many", at=3), NoWorld(""), NoWay(""), NoText(0), NoRow("")):
            with self.assertRaises(WayError):
                raise made
        with self.assertRaises(KeyError):
            raise Unknown(None)
        with self.assertRaises(IndexError):
            raise NoBack("nothing is done")
        for made in (TooMany(300), Full("thirty")):
            with self.assertRaises(OverflowError):
                raise made


if __name__ == "__main__":
    unittest.main()
