"""What several tests need."""

import unittest

from hidelater.errors import BadSizes

# Numbers that are no size, small and great ones.
NO_SIZES = (0, 41, -1, -2, -40, 10 ** 39)

# Each pair: bad sizes, and the field with which they are refused.
BAD_SIZES = (
    ((), -1),
    ((1, 2, 3, 4, 5, 6, 7), -1),
    ((0, 2, 3, 4, 5, 6, 7), -1),
    ((1,) * 12, -1),
    ((0,), 0),
    ((41,), 0),
    ((3, 0), 1),
    ((3, 4, -1, 0), 2),
    ((3, 41, 0, 4), 1),
    ((5, 5, 5, 5, 5, 10 ** 39), 5),
)


def bent(row, place, worth):
    """The tuple with another thing at that place."""
    return row[:place] + (worth,) + row[place + 1:]


class RefusalTest(unittest.TestCase):
    """A test that looks at refusals with their fields."""

    def refused(self, kind, fields, call, *given, **named):
        with self.assertRaises(kind) as caught:
            call(*given, **named)
        self.assertIs(type(caught.exception), kind)
        for name, value in fields.items():
            self.assertEqual(getattr(caught.exception, name), value, (given, named))

    def bad_sizes_first(self, call, *others):
        """Bad sizes are refused whatever stands beside them."""
        for other in others:
            for sizes, cask in BAD_SIZES:
                with self.subTest(call=call.__name__, sizes=sizes, other=other):
                    self.refused(BadSizes, {"cask": cask}, call, sizes, other)
