"""Points [3], [4], [5] and [9]: hidelater.casks."""

import itertools
import unittest

from hidelater.casks import GONE, MOST_CASKS, MOST_DROPS, MOST_SIZE
from hidelater.casks import apart, counts_of, greater, hidden, lesser, look_counts, look_sizes, look_stand
from hidelater.casks import room, stand_of, within
from hidelater.errors import BadCounts, BadSizes, BadStand, NoDrop, TooMany
from helping import NO_SIZES, RefusalTest, bent

SIZES = (5, 40, 1, 17, 3, 8)
GREAT_NUMBER = 10 ** 39

# Each pair: counts of SIZES, and their room.
GOOD_COUNTS = (
    ((0, 0, 0, 0, 0, 0), (5, 40, 1, 17, 3, 8)),
    ((5, 40, 1, 17, 3, 8), (0, 0, 0, 0, 0, 0)),
    ((5, 39, 0, 1, 2, 7), (0, 1, 1, 16, 1, 1)),
    ((1, 20, 1, 16, 0, 8), (4, 20, 0, 1, 3, 0)),
)


class Bounds(unittest.TestCase):

    def test_bounds(self):
        self.assertEqual((MOST_CASKS, MOST_SIZE, MOST_DROPS, GONE), (6, 40, 60, -1))


class Sizes(RefusalTest):

    def test_good_sizes(self):
        for many in range(1, 7):
            self.assertIsNone(look_sizes(SIZES[:many]))
            for size in range(1, 41):
                self.assertIsNone(look_sizes((size,) * many))
                self.assertIsNone(look_sizes(bent(SIZES[:many], size % many, size)))

    def test_too_few_and_too_many(self):
        self.refused(BadSizes, {"cask": -1}, look_sizes, ())
        for many in (7, 8, 41, 100):
            self.refused(BadSizes, {"cask": -1}, look_sizes, (3,) * many)
            self.refused(BadSizes, {"cask": -1}, look_sizes, (0,) * many)

    def test_a_bad_size_at_any_place(self):
        for many in range(1, 7):
            for place in range(many):
                for size in NO_SIZES:
                    sizes = bent(SIZES[:many], place, size)
                    self.refused(BadSizes, {"cask": place}, look_sizes, sizes)

    def test_the_first_bad_size_is_told(self):
        for first, second in itertools.combinations(range(6), 2):
            for one, other in itertools.product(NO_SIZES, repeat=2):
                sizes = bent(bent(SIZES, first, one), second, other)
                self.refused(BadSizes, {"cask": first}, look_sizes, sizes)

    def test_bad_sizes_go_ahead_of_all_else(self):
        for call in (look_counts, room, stand_of):
            self.bad_sizes_first(call, (1,), (-1, 99), (40,) * 6, ())
        for call in (look_stand, counts_of):
            self.bad_sizes_first(call, (), (0,), (-2,), (9,) * 61)


class Counts(RefusalTest):

    def test_good_counts(self):
        for counts, free in GOOD_COUNTS:
            for many in range(1, 7):
                self.assertIsNone(look_counts(SIZES[:many], counts[:many]))
                self.assertEqual(room(SIZES[:many], counts[:many]), free[:many])

    def test_every_number_of_one_cask(self):
        for size in range(1, 41):
            for many in range(size + 1):
                self.assertIsNone(look_counts((size,), (many,)))
                self.assertEqual(room((size,), (many,)), (size - many,))
            self.refused(BadCounts, {"cask": 0}, look_counts, (size,), (size + 1,))
            self.refused(BadCounts, {"cask": 0}, look_counts, (size,), (-1,))

    def test_another_count_of_them(self):
        for call in (look_counts, room, stand_of):
            for many in range(1, 7):
                for other in (0, many - 1, many + 1, 6 + many):
                    self.refused(BadCounts, {"cask": -1}, call, SIZES[:many], (0,) * other)
                self.refused(BadCounts, {"cask": -1}, call, SIZES[:many], (-1,) * (many + 1))

    def test_a_bad_number_at_any_place(self):
        for call in (look_counts, room, stand_of):
            for counts, _ in GOOD_COUNTS:
                for place, size in enumerate(SIZES):
                    for worth in (-1, -2, size + 1, size + 40, GREAT_NUMBER, -GREAT_NUMBER):
                        self.refused(BadCounts, {"cask": place}, call, SIZES, bent(counts, place, worth))

    def test_the_first_bad_number_is_told(self):
        for first, second in itertools.combinations(range(6), 2):
            counts = bent(bent((0,) * 6, first, SIZES[first] + 1), second, -1)
            self.refused(BadCounts, {"cask": first}, look_counts, SIZES, counts)

    def test_room_is_a_tuple(self):
        self.assertIs(type(room((4, 2), (1, 2))), tuple)


class Stands(RefusalTest):

    def test_good_stands(self):
        for stand in ((), (0,), (GONE,), (2, GONE, 0, 1, 1, 5, 4, 3), (0,) * 5 + (1,) * 40, (GONE,) * 60):
            self.assertIsNone(look_stand(SIZES, stand))

    def test_sixty_drops_and_sixty_one(self):
        full = (1,) * 40 + (3,) * 17 + (4,) * 3
        self.assertEqual(len(full), 60)
        self.assertIsNone(look_stand(SIZES, full))
        for call in (look_stand, counts_of):
            for one_more in (0, GONE, -2, 6):
                self.refused(BadStand, {"rank": -1}, call, SIZES, full + (one_more,))
                self.refused(BadStand, {"rank": -1}, call, SIZES, (one_more,) + full)
            self.refused(BadStand, {"rank": -1}, call, SIZES, (GONE,) * 61)
            self.refused(BadStand, {"rank": -1}, call, SIZES, (2,) * 90)

    def test_a_place_that_is_no_cask_at_any_rank(self):
        for many in range(1, 7):
            stand = (GONE, 0) + tuple(range(many)) + (GONE,)
            for rank in range(len(stand)):
                for place in (many, many + 1, 6, -2, -3, GREAT_NUMBER, -GREAT_NUMBER):
                    for call in (look_stand, counts_of):
                        self.refused(BadStand, {"rank": rank}, call, SIZES[:many], bent(stand, rank, place))

    def test_a_full_cask(self):
        sizes = (2, 1, 3)
        self.assertIsNone(look_stand(sizes, (2, 0, 1, 2, GONE, 0, 2)))
        for call in (look_stand, counts_of):
            self.refused(BadStand, {"rank": 3}, call, sizes, (0, 1, 0, 0))
            self.refused(BadStand, {"rank": 2}, call, sizes, (1, 0, 1, 0, 0))
            self.refused(BadStand, {"rank": 5}, call, sizes, (2, GONE, 2, 2, GONE, 2))
            self.refused(BadStand, {"rank": 2}, call, sizes, (1, GONE, 1, 3))
            self.refused(BadStand, {"rank": 1}, call, sizes, (1, 3, 1))

    def test_each_cask_one_too_many(self):
        for cask, size in enumerate(SIZES):
            self.assertIsNone(look_stand(SIZES, (cask,) * size))
            self.refused(BadStand, {"rank": size}, look_stand, SIZES, (cask,) * (size + 1))
            self.refused(BadStand, {"rank": size + 1}, look_stand, SIZES, (cask, GONE) + (cask,) * size)

    def test_all_small_stands(self):
        sizes = (1, 2)
        for length in range(5):
            for stand in itertools.product((-2, GONE, 0, 1, 2), repeat=length):
                bad = [
                    rank for rank in range(length)
                    if stand[rank] in (-2, 2) or stand[: rank + 1].count(0) > 1 or stand[: rank + 1].count(1) > 2
                ]
                if bad:
                    self.refused(BadStand, {"rank": bad[0]}, look_stand, sizes, stand)
                    self.refused(BadStand, {"rank": bad[0]}, counts_of, sizes, stand)
                else:
                    self.assertIsNone(look_stand(sizes, stand))
                    self.assertEqual(counts_of(sizes, stand), (stand.count(0), stand.count(1)))

    def test_counts_of(self):
        self.assertEqual(counts_of(SIZES, ()), (0,) * 6)
        self.assertEqual(counts_of(SIZES, (GONE, GONE)), (0,) * 6)
        self.assertEqual(counts_of(SIZES, (3, 0, GONE, 3, 1, 2, 3, 5, 0)), (2, 1, 1, 3, 0, 1))
        self.assertEqual(counts_of((7,), (0, GONE, 0)), (2,))


class StandOf(RefusalTest):

    def test_first_drops_are_in_the_first_casks(self):
        self.assertEqual(stand_of((4,), (0,)), ())
        self.assertEqual(stand_of((4,), (3,)), (0, 0, 0))
        self.assertEqual(stand_of((4, 2, 9), (2, 0, 3)), (0, 0, 2, 2, 2))
        self.assertEqual(stand_of(SIZES, (1, 2, 1, 0, 2, 1)), (0, 1, 1, 2, 4, 4, 5))

    def test_within_sixty_drops_and_beyond(self):
        sizes = (40, 40, 40)
        self.assertEqual(stand_of(sizes, (40, 20, 0)), (0,) * 40 + (1,) * 20)
        self.assertEqual(stand_of(sizes, (19, 1, 40)), (0,) * 19 + (1,) + (2,) * 40)
        for counts in ((40, 21, 0), (20, 1, 40), (40, 40, 40)):
            self.refused(TooMany, {"most": 60}, stand_of, sizes, counts)
        self.refused(TooMany, {"most": 60}, stand_of, (40,) * 6, (40,) * 6)

    def test_bad_counts_go_ahead_of_too_many(self):
        self.refused(BadCounts, {"cask": 2}, stand_of, (40, 40, 40), (40, 40, 41))
        self.refused(BadCounts, {"cask": -1}, stand_of, (40, 40, 40), (40, 40))

    def test_counts_of_what_stand_of_tells(self):
        for counts in itertools.product(range(3), range(5), range(2), range(4)):
            stand = stand_of((2, 4, 1, 3), counts)
            self.assertEqual(counts_of((2, 4, 1, 3), stand), counts)
            self.assertEqual(list(stand), sorted(stand))


class Hidden(RefusalTest):

    def test_the_first_so_many(self):
        stand = (2, GONE, 0, 0, 1)
        told = [hidden(stand, many) for many in range(6)]
        self.assertEqual(told, [(), (2,), (2, GONE), (2, GONE, 0), (2, GONE, 0, 0), stand])
        self.assertEqual(hidden((), 0), ())

    def test_beyond(self):
        for stand in ((), (0,), (2, GONE, 0, 0, 1), (GONE,) * 60):
            for many in (-1, -2, -60, -GREAT_NUMBER, len(stand) + 1, len(stand) + 7, 61, GREAT_NUMBER):
                self.refused(NoDrop, {"rank": many}, hidden, stand, many)


class PlaceByPlace(unittest.TestCase):

    def test_all_small_pairs(self):
        for length in range(1, 4):
            rows = list(itertools.product((-2, 0, 1), repeat=length))
            for one, other in itertools.product(rows, repeat=2):
                self.look_pair(one, other)

    def test_one_to_six_numbers_small_and_great(self):
        one = (0, -7, GREAT_NUMBER, 3, -GREAT_NUMBER, 12)
        other = (4, -7, 5, -3, GREAT_NUMBER, 12)
        for many in range(1, 7):
            self.look_pair(one[:many], other[:many])
            self.look_pair(other[:many], one[:many])
            self.look_pair(one[:many], one[:many])

    def look_pair(self, one, other):
        low, high = lesser(one, other), greater(one, other)
        self.assertIs(type(low), tuple)
        self.assertIs(type(high), tuple)
        self.assertEqual((len(low), len(high)), (len(one), len(one)))
        gap = 0
        for place, (a, b) in enumerate(zip(one, other)):
            self.assertEqual([low[place], high[place]], sorted([a, b]))
            gap += a - b if a > b else b - a
        self.assertEqual(apart(one, other), gap)
        self.assertIs(within(one, other), low == one)

    def test_told_ones(self):
        self.assertEqual(lesser((3, -1, 5, 5), (2, 0, 5, -9)), (2, -1, 5, -9))
        self.assertEqual(greater((3, -1, 5, 5), (2, 0, 5, -9)), (3, 0, 5, 5))
        self.assertEqual(apart((3, -1, 5, 5), (2, 0, 5, -9)), 16)
        self.assertIs(within((1, 2, 3), (1, 2, 3)), True)
        self.assertIs(within((1, 2, 2), (1, 3, 3)), True)
        self.assertIs(within((0, 0, 4), (9, 9, 3)), False)
        self.assertIs(within((1, 0), (0, 9)), False)


class ByName(unittest.TestCase):

    def test_arguments_by_their_names(self):
        self.assertIsNone(look_sizes(sizes=(3, 2)))
        self.assertIsNone(look_counts(counts=(1, 2), sizes=(3, 2)))
        self.assertIsNone(look_stand(stand=(1, 0), sizes=(3, 2)))
        self.assertEqual(counts_of(stand=(1, 0, 0), sizes=(3, 2)), (2, 1))
        self.assertEqual(stand_of(counts=(1, 2), sizes=(3, 2)), (0, 1, 1))
        self.assertEqual(room(counts=(1, 2), sizes=(3, 2)), (2, 0))
        self.assertEqual(hidden(many=2, stand=(1, 0, 0)), (1, 0))
        self.assertEqual(lesser(other=(1, 5), one=(2, 3)), (1, 3))
        self.assertEqual(greater(other=(1, 5), one=(2, 3)), (2, 5))
        self.assertIs(within(other=(2, 5), one=(2, 3)), True)
        self.assertEqual(apart(other=(1, 5), one=(2, 3)), 3)


if __name__ == "__main__":
    unittest.main()
