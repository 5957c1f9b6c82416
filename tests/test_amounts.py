"""Points [6], [8], [9] and [12]: hidelater.amounts."""

import unittest

from hidelater.amounts import by_counts, poured, poured_all
from hidelater.casks import GONE, MOST_DROPS, counts_of, look_counts
from hidelater.deeds import GREAT
from hidelater.errors import BadRow, Tapped, TooMany
from hidelater.ranks import done_all
from helping import RefusalTest
from making import DRY_WORDS, chances, some_counts, some_deed, some_row, some_sizes, some_stand
from models import model_poured

# Each row: sizes, counts, deed, the counts behind; worked out by hand.
TOLD = (
    ((9, 9), (5, 2), ("over", 0, 0, 1), (5, 2)),
    ((9, 9), (5, 2), ("over", 3, 0, 1), (2, 5)),
    ((9, 9), (5, 2), ("over", 5, 0, 1), (0, 7)),
    ((9, 9), (5, 2), ("over", GREAT - 1, 0, 1), (0, 7)),
    ((9, 4), (5, 2), ("over", 4, 0, 1), (3, 4)),
    ((9, 4, 3), (8, 2, 2), ("over", 7, 0, 1, 2), (5, 4, 3)),
    ((9, 4, 3), (8, 2, 2), ("over", 3, 0, 2, 1), (5, 4, 3)),
    ((9, 4, 3), (8, 2, 2), ("over", 1, 0, 2, 1), (7, 2, 3)),
    ((9, 4), (5, 2), ("down", 0, 0, 1), (3, 4)),
    ((9, 4), (5, 2), ("down", 4, 0, 1), (4, 3)),
    ((9, 4), (5, 2), ("down", 5, 0, 1), (5, 2)),
    ((9, 4), (5, 2), ("down", GREAT - 1, 0, 1), (5, 2)),
    ((9, 4, 9), (8, 4, 0), ("down", 2, 0, 1, 2), (2, 4, 6)),
    ((9, 9, 4), (5, 2, 1), ("swap", 0, 1), (2, 5, 1)),
    ((9, 9, 4), (5, 2, 1), ("swap", 1, 0), (2, 5, 1)),
    ((9, 4), (5, 2), ("tap", 0, 1), (5, 2)),
    ((9, 4), (5, 2), ("tap", 1, 1), (5, 3)),
    ((9, 4), (5, 2), ("tap", 2, 1), (5, 4)),
    ((9, 4), (5, 2), ("tap", GREAT - 1, 0), (9, 2)),
    ((9, 4), (5, 2), ("drain", 0, 0), (5, 2)),
    ((9, 4), (5, 2), ("drain", 4, 0), (1, 2)),
    ((9, 4), (5, 2), ("drain", 5, 0), (0, 2)),
    ((9, 4), (5, 2), ("drain", GREAT - 1, 1), (5, 0)),
)


class Poured(unittest.TestCase):

    def test_told_ones(self):
        for sizes, counts, deed, behind in TOLD:
            with self.subTest(sizes=sizes, counts=counts, deed=deed):
                told = poured(sizes, counts, deed)
                self.assertEqual(told, behind)
                self.assertIs(type(told), tuple)
                self.assertEqual(poured_all(sizes, counts, [deed]), behind)

    def test_deed_by_deed(self):
        for chance in chances(11, 2000):
            sizes = some_sizes(chance)
            counts = some_counts(chance, sizes)
            row = some_row(chance, sizes)
            behind = counts
            for deed in row:
                ahead, behind = behind, model_poured(sizes, behind, deed)
                self.assertEqual(poured(sizes, ahead, deed), behind, (sizes, ahead, deed))
            handed = list(row)
            self.assertEqual(poured_all(sizes, counts, row), behind)
            self.assertEqual(poured_all(sizes, counts, tuple(row)), behind)
            self.assertIs(type(poured_all(sizes, counts, row)), tuple)
            self.assertIsNone(look_counts(sizes, behind))
            self.assertEqual(row, handed)

    def test_no_deed(self):
        self.assertEqual(poured_all((3, 4), (1, 4), []), (1, 4))
        self.assertEqual(poured_all((3, 4), (1, 4), ()), (1, 4))

    def test_a_tap_is_never_refused(self):
        self.assertEqual(poured((40,) * 6, (40,) * 5 + (0,), ("tap", 40, 5)), (40,) * 6)
        row = [("tap", 40, cask) for cask in range(6)] + [("drain", 40, 0), ("tap", GREAT - 1, 0)] * 100
        self.assertEqual(poured_all((40,) * 6, (0,) * 6, row), (40,) * 6)
        self.assertGreater(40 * 6, MOST_DROPS)

    def test_four_hundred_deeds_and_some_more(self):
        for many in (400, 401, 410):
            behind = poured_all((2, 2), (0, 2), [("swap", 0, 1)] * many)
            self.assertEqual(behind, (0, 2) if many % 2 == 0 else (2, 0))
            told = by_counts((2, 2), (0, 1, 1), [("swap", 0, 1)] * many)
            self.assertEqual(told, (0, 1, 1) if many % 2 == 0 else (1, 0, 0))


class CountsAndStands(RefusalTest):

    def test_counts_of_done_all_is_poured_all_of_counts_of(self):
        seen = 0
        for chance in chances(12, 1500):
            sizes = some_sizes(chance)
            stand = some_stand(chance, sizes, 30)
            row = some_row(chance, sizes)
            try:
                behind = done_all(sizes, stand, row)
            except TooMany:
                continue
            self.assertEqual(counts_of(sizes, behind), poured_all(sizes, counts_of(sizes, stand), row))
            seen += 1
        self.assertGreater(seen, 1000)

    def test_by_counts_tells_what_done_all_tells(self):
        for chance in chances(13, 1200):
            sizes = some_sizes(chance)
            stand = some_stand(chance, sizes)
            row = some_row(chance, sizes, DRY_WORDS)
            handed = list(row)
            behind = done_all(sizes, stand, row)
            self.assertEqual(by_counts(sizes, stand, row), behind, (sizes, stand, row))
            self.assertEqual(by_counts(sizes, stand, tuple(row)), behind)
            self.assertIs(type(by_counts(sizes, stand, row)), tuple)
            self.assertEqual(row, handed)

    def test_told_ones(self):
        self.assertEqual(by_counts((3, 1), (), [("over", 1, 0, 1)]), ())
        self.assertEqual(by_counts((3, 1), (GONE, 0, 1), []), (GONE, 0, 1))
        self.assertEqual(by_counts((3, 1), (0, GONE, 0, 1), [("over", 2, 0, 1)]), (1, GONE, 0, 0))
        self.assertEqual(by_counts((3, 1), (0, 0, 1), [("drain", 1, 0), ("down", 0, 1, 0)]), (GONE, 0, 0))


class Taps(RefusalTest):

    def test_the_first_tap_is_told(self):
        for chance in chances(14, 400):
            sizes = some_sizes(chance)
            stand = some_stand(chance, sizes)
            dry = some_row(chance, sizes, DRY_WORDS)
            tail = some_row(chance, sizes, most=5)
            row = dry + [some_deed(chance, sizes, ("tap",))] + tail
            self.refused(Tapped, {"step": len(dry)}, by_counts, sizes, stand, row)
            self.refused(Tapped, {"step": len(dry)}, by_counts, sizes, stand, tuple(row))

    def test_a_tap_of_none_and_one_beyond_sixty_drops(self):
        self.refused(Tapped, {"step": 0}, by_counts, (3,), (), [("tap", 0, 0)])
        self.refused(Tapped, {"step": 1}, by_counts, (3,), (GONE,) * 60, [("drain", 1, 0), ("tap", 9, 0)])

    def test_a_bad_row_goes_ahead(self):
        row = [("tap", 1, 0), ("swap", 0, 0)]
        self.refused(BadRow, {"step": 1, "place": 2}, by_counts, (3,), (), row)


class ByName(unittest.TestCase):

    def test_arguments_by_their_names(self):
        deed = ("over", 1, 0, 1)
        self.assertEqual(poured(deed=deed, counts=(2, 0), sizes=(2, 2)), (1, 1))
        self.assertEqual(poured_all(deeds=[deed], counts=(2, 0), sizes=(2, 2)), (1, 1))
        self.assertEqual(by_counts(deeds=[deed], stand=(0, 0), sizes=(2, 2)), (1, 0))


if __name__ == "__main__":
    unittest.main()
