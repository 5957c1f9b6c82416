"""Point [10]: hidelater.tables."""

import itertools
import unittest

from hidelater.amounts import poured_all
from hidelater.casks import GONE, MOST_DROPS, counts_of
from hidelater.ranks import done_all
from hidelater.tables import joined, one_more
from making import DRY_WORDS, chances, some_counts, some_row, some_sizes, some_stand


class OneMore(unittest.TestCase):

    def test_told_ones(self):
        self.assertEqual(one_more((3, 5), (1, 2), []), (0, 1))
        self.assertEqual(one_more((3, 5), (3, 2), ()), (None, 1))
        self.assertEqual(one_more((3, 5), (3, 5), [("drain", 9, 0)]), (None, None))
        self.assertEqual(one_more((3, 5), (1, 2), [("over", 9, 0, 1)]), (1, 1))
        self.assertEqual(one_more((3, 5), (1, 2), [("over", 1, 0, 1)]), (0, 1))
        self.assertEqual(one_more((3, 3), (2, 2), [("over", 9, 0, 1)]), (0, 0))
        self.assertEqual(one_more((3, 5), (1, 2), [("drain", 2, 0)]), (GONE, 1))
        self.assertEqual(one_more((3, 5), (2, 2), [("drain", 2, 0)]), (0, 1))
        self.assertEqual(one_more((3, 3, 1), (1, 2, 1), [("swap", 0, 1)]), (1, 0, None))
        # A tap that fills the cask anyway brings one drop less for one that is there already.
        self.assertEqual(one_more((3, 5), (1, 2), [("tap", 2, 0)]), (GONE, 1))
        self.assertEqual(one_more((3, 5), (1, 2), [("tap", 1, 0)]), (0, 1))
        self.assertEqual(one_more((40,) * 2, (39, 39), [("tap", 40, 0), ("tap", 40, 1)]), (GONE, GONE))

    def test_cask_by_cask(self):
        seen = {}
        for chance in chances(21, 1200):
            sizes = some_sizes(chance)
            counts = some_counts(chance, sizes)
            row = some_row(chance, sizes)
            handed = list(row)
            table = one_more(sizes, counts, row)
            self.assertIs(type(table), tuple)
            self.assertEqual(len(table), len(sizes))
            self.assertEqual(one_more(sizes, counts, tuple(row)), table)
            last = list(poured_all(sizes, counts, row))
            for cask, end in enumerate(table):
                self.look_end(sizes, counts, row, cask, end, last)
                seen["None" if end is None else "GONE" if end == GONE else "cask"] = True
            self.assertEqual(row, handed)
        self.assertEqual(len(seen), 3)

    def look_end(self, sizes, counts, row, cask, end, last):
        if counts[cask] == sizes[cask]:
            self.assertIsNone(end)
            return
        more = list(counts)
        more[cask] += 1
        behind = list(poured_all(sizes, tuple(more), row))
        if end != GONE:
            behind[end] -= 1
        self.assertEqual(behind, last)

    def test_the_stand_with_one_last_drop_more_goes_by_the_table(self):
        for chance in chances(22, 800):
            sizes = some_sizes(chance)
            stand = some_stand(chance, sizes, MOST_DROPS - 1)
            row = some_row(chance, sizes, DRY_WORDS)
            behind = done_all(sizes, stand, row)
            table = one_more(sizes, counts_of(sizes, stand), row)
            for cask, end in enumerate(table):
                if end is not None:
                    self.assertEqual(done_all(sizes, stand + (cask,), row), behind + (end,))


class Joined(unittest.TestCase):

    def test_told_ones(self):
        self.assertEqual(joined((0, 1), (1, 0)), (1, 0))
        self.assertEqual(joined((1, 1, 0), (2, GONE, None)), (GONE, GONE, 2))
        self.assertEqual(joined((None, GONE, 2), (0, 1, None)), (None, GONE, None))
        self.assertEqual(joined((None, GONE), (0, 0)), (None, GONE))
        self.assertEqual(joined((0,), (GONE,)), (GONE,))
        self.assertIs(type(joined((0,), (0,))), tuple)

    def test_all_small_tables(self):
        for casks in (1, 2):
            ends = (None, GONE) + tuple(range(casks))
            for first, second in itertools.product(itertools.product(ends, repeat=casks), repeat=2):
                table = joined(first, second)
                self.assertEqual(len(table), casks)
                for cask, end in enumerate(first):
                    self.assertEqual(table[cask], end if end in (None, GONE) else second[end])

    def test_two_rows_one_behind_the_other(self):
        for chance in chances(23, 1000):
            sizes = some_sizes(chance)
            counts = some_counts(chance, sizes)
            first, second = some_row(chance, sizes, most=6), some_row(chance, sizes, most=6)
            middle = poured_all(sizes, counts, first)
            table = joined(one_more(sizes, counts, first), one_more(sizes, middle, second))
            self.assertEqual(table, one_more(sizes, counts, first + second))

    def test_three_either_way(self):
        for chance in chances(24, 1000):
            casks = chance.randint(1, 6)
            ends = (None, GONE) + tuple(range(casks)) * 2
            one, two, three = [tuple([chance.choice(ends) for _ in range(casks)]) for _ in range(3)]
            self.assertEqual(joined(joined(one, two), three), joined(one, joined(two, three)))


class ByName(unittest.TestCase):

    def test_arguments_by_their_names(self):
        self.assertEqual(one_more(deeds=[("over", 9, 0, 1)], counts=(1, 2), sizes=(3, 5)), (1, 1))
        self.assertEqual(joined(second=(1, GONE), first=(0, None)), (1, None))


if __name__ == "__main__":
    unittest.main()
