"""Point [2]: the refusals of hidelater.errors."""

import inspect
import unittest

from hidelater import errors

# Each row: a class, its fields by place, its word.
HIDE_ERRORS = (
    (errors.BadSizes, {"cask": 3}, "bad sizes"),
    (errors.BadCounts, {"cask": -1}, "bad counts"),
    (errors.BadStand, {"rank": 17}, "bad stand"),
    (errors.BadDeed, {"place": 2}, "bad deed"),
    (errors.BadRow, {"step": 7, "place": -1}, "bad row"),
    (errors.BadTimes, {}, "bad times"),
    (errors.BadName, {}, "bad name"),
    (errors.BadText, {"row": 4}, "bad text"),
    (errors.Taken, {"name": "rain"}, "taken"),
    (errors.InUse, {"name": "flood"}, "in use"),
    (errors.Tapped, {"step": 9}, "tapped"),
    (errors.TooLong, {"most": 200}, "too long"),
    (errors.TooMany, {"most": 60}, "too many"),
    (errors.Unlike, {}, "unlike"),
)
MISSING = (
    (errors.NoRound, {"name": "ebb"}, "no round"),
    (errors.NoDrop, {"rank": -5}, "no drop"),
    (errors.NoCask, {"cask": 6}, "no cask"),
)
NOTHING_LEFT = ((errors.NothingLeft, {}, "nothing left"),)


class Errors(unittest.TestCase):

    def look_made(self, rows, base):
        for kind, fields, word in rows:
            with self.subTest(kind=kind.__name__):
                made = kind(*fields.values())
                self.assertEqual(kind.__bases__, (base,))
                self.assertIsInstance(made, kind)
                self.assertEqual(made.word, word)
                self.assertIs(type(made.word), str)
                self.assertEqual({name: getattr(made, name) for name in fields}, fields)
                self.assertEqual(list(inspect.signature(kind).parameters), list(fields))

    def test_what_stands_under_hide_error(self):
        self.assertEqual(errors.HideError.__bases__, (ValueError,))
        self.assertEqual(len(HIDE_ERRORS), 14)
        self.look_made(HIDE_ERRORS, errors.HideError)

    def test_what_stands_under_missing(self):
        self.assertEqual(errors.Missing.__bases__, (LookupError,))
        self.look_made(MISSING, errors.Missing)

    def test_nothing_left(self):
        self.look_made(NOTHING_LEFT, IndexError)

    def test_which_ones_they_are_not_under(self):
        rows = HIDE_ERRORS + MISSING + NOTHING_LEFT
        for kind, fields, _ in rows:
            made = kind(*fields.values())
            for other, _, _ in rows:
                with self.subTest(kind=kind.__name__, other=other.__name__):
                    self.assertEqual(isinstance(made, other), kind is other)
        for kind, _, _ in HIDE_ERRORS:
            self.assertFalse(issubclass(kind, LookupError))
        for kind, _, _ in MISSING:
            self.assertFalse(issubclass(kind, (ValueError, IndexError, KeyError)))
        self.assertFalse(issubclass(errors.NothingLeft, (ValueError, errors.Missing)))

    def test_raised_and_caught_by_the_class_above(self):
        for rows, base in ((HIDE_ERRORS, errors.HideError), (MISSING, errors.Missing), (NOTHING_LEFT, IndexError)):
            for kind, fields, word in rows:
                with self.assertRaises(base) as caught:
                    raise kind(*fields.values())
                self.assertEqual(caught.exception.word, word)

    def test_made_apart(self):
        one, other = errors.BadRow(1, 2), errors.BadRow(3, 4)
        self.assertEqual((one.step, one.place, other.step, other.place), (1, 2, 3, 4))


if __name__ == "__main__":
    unittest.main()
