"""Points [1], [12] and [13]: hidelater.far."""

import math
import unittest

from hidelater.amounts import poured_all
from hidelater.casks import GONE, MOST_DROPS, apart, counts_of, hidden, look_counts, look_stand, within
from hidelater.errors import BadTimes, Tapped
from hidelater.far import FAR, behind, behind_counts, ring, ring_of_counts, turns
from hidelater.ranks import done_all
from helping import RefusalTest
from making import DRY_WORDS, TWELVES, chances, some_counts, some_deed, some_load, some_stand
from models import model_round, model_round_of_drops, model_walk

SWAP = [("swap", 0, 1)]
# Casks 0 to 2 go round by threes, 3 and 4 by twos.
SIX = [("swap", 0, 1), ("swap", 1, 2), ("swap", 3, 4)]

BAD_TIMES = (-1, -2, -(10 ** 309), FAR, FAR + 1, 10 ** 301, 10 ** 310 - 1)


def some_times(chance):
    """Times of few and of up to three hundred figures."""
    return chance.choice((
        chance.randrange(20), chance.randrange(5000), chance.randrange(10 ** 40), chance.randrange(FAR),
        FAR - 1 - chance.randrange(50), 10 ** chance.randrange(300)))


def common_multiple(casks):
    """The least common multiple of 1 to the count of casks."""
    return math.lcm(*range(1, casks + 1))


def stands(seed, many):
    """So many triples of sizes, a stand and a row without taps."""
    for chance in chances(seed, many):
        sizes, _, row = some_load(chance)
        yield chance, sizes, some_stand(chance, sizes), row


def loads(seed, many):
    """So many triples of sizes, counts and a row without taps."""
    for chance in chances(seed, many):
        yield (chance,) + some_load(chance)


class Bounds(unittest.TestCase):

    def test_far(self):
        self.assertEqual(FAR, int("1" + "0" * 300))
        self.assertIs(type(FAR), int)


class FewTimes(unittest.TestCase):

    def test_told_ones(self):
        over = [("over", 1, 0, 1)]
        self.assertEqual([behind_counts((3, 5), (3, 0), over, times) for times in range(5)],
                         [(3, 0), (2, 1), (1, 2), (0, 3), (0, 3)])
        self.assertEqual([behind((3, 5), (0, 0, GONE, 0), over, times) for times in range(5)],
                         [(0, 0, -1, 0), (1, 0, -1, 0), (1, 1, -1, 0), (1, 1, -1, 1), (1, 1, -1, 1)])
        self.assertEqual([behind_counts((4, 4), (1, 3), SWAP, times) for times in range(4)],
                         [(1, 3), (3, 1), (1, 3), (3, 1)])
        self.assertEqual(behind((2, 2), (0, 1), [("drain", 1, 0)], 1), (GONE, 1))

    def test_no_deeds(self):
        for row in ([], ()):
            for times in (0, 1, 2, 77, FAR - 1):
                self.assertEqual(behind((3, 4), (1, GONE, 0), row, times), (1, GONE, 0))
                self.assertEqual(behind_counts((3, 4), (1, 4), row, times), (1, 4))

    def test_no_drops(self):
        for times in (0, 1, 5, FAR - 1):
            self.assertEqual(behind((3, 3), (), SWAP, times), ())
            self.assertEqual(behind((3, 3), (GONE,) * 60, SWAP, times), (GONE,) * 60)
            self.assertEqual(behind_counts((3, 3), (0, 0), SWAP, times), (0, 0))

    def test_stands_round_by_round(self):
        for chance, sizes, stand, row in stands(51, 250):
            handed = list(row)
            here = stand
            for times in range(chance.choice((4, 4, 25))):
                told = behind(sizes, stand, row, times)
                self.assertEqual(told, here, (sizes, stand, row, times))
                self.assertIs(type(told), tuple)
                self.assertIsNone(look_stand(sizes, told))
                self.assertEqual(behind(sizes, stand, tuple(row), times), here)
                here = model_round_of_drops(sizes, here, row)
            self.assertEqual(row, handed)

    def test_counts_round_by_round(self):
        for chance, sizes, counts, row in loads(52, 600):
            handed = list(row)
            here = counts
            for times in range(chance.choice((4, 4, 40))):
                told = behind_counts(sizes, counts, row, times)
                self.assertEqual(told, here, (sizes, counts, row, times))
                self.assertIs(type(told), tuple)
                self.assertIsNone(look_counts(sizes, told))
                self.assertEqual(behind_counts(sizes, counts, tuple(row), times), here)
                here = model_round(sizes, here, row)
            self.assertEqual(row, handed)

    def test_nought_times_and_once(self):
        for _, sizes, stand, row in stands(53, 300):
            counts = counts_of(sizes, stand)
            self.assertEqual(behind(sizes, stand, row, 0), stand)
            self.assertEqual(behind(sizes, stand, row, 1), done_all(sizes, stand, row))
            self.assertEqual(behind_counts(sizes, counts, row, 0), counts)
            self.assertEqual(behind_counts(sizes, counts, row, 1), poured_all(sizes, counts, row))


class ManyTimes(unittest.TestCase):

    def test_by_known_rings(self):
        for times in (0, 1, 2, 10 ** 17, 10 ** 299, 10 ** 299 + 1, FAR - 1, FAR - 2):
            even = times % 2 == 0
            self.assertEqual(behind((2, 2), (0, 1, 1), SWAP, times), (0, 1, 1) if even else (1, 0, 0))
            self.assertEqual(behind_counts((9, 9), (4, 7), SWAP, times), (4, 7) if even else (7, 4))
            # The drop of cask 0 goes to 2, then to 1, then back.
            self.assertEqual(behind((1,) * 5, (0, 3), SIX, times), ((0, 2, 1)[times % 3], 3 if even else 4))

    def test_behind_what_is_ahead(self):
        over = [("over", 1, 0, 1), ("over", 1, 2, 3), ("drain", 1, 4)]
        sizes = (40, 40, 40, 40, 40)
        for times in (39, 40, 41, 10 ** 30, FAR - 1):
            left = max(40 - times, 0)
            self.assertEqual(behind_counts(sizes, (40, 0, 9, 31, 22), over, times), (left, 40 - left, 0, 40, 0))

    def test_so_many_and_then_so_many_more(self):
        for chance, sizes, stand, row in stands(54, 250):
            one, other = some_times(chance), some_times(chance)
            if one + other >= FAR:
                other = FAR - 1 - one
            first = behind(sizes, stand, row, one)
            self.assertEqual(behind(sizes, first, row, other), behind(sizes, stand, row, one + other))
            counts = some_counts(chance, sizes)
            first = behind_counts(sizes, counts, row, one)
            told = behind_counts(sizes, counts, row, one + other)
            self.assertEqual(behind_counts(sizes, first, row, other), told)

    def test_moved_by_the_length_of_the_ring(self):
        for chance, sizes, stand, row in stands(55, 250):
            counts = some_counts(chance, sizes)
            for tell, tell_ring, start in ((behind, ring, stand), (behind_counts, ring_of_counts, counts)):
                ahead, length = tell_ring(sizes, start, row)
                times = ahead + some_times(chance) // 2
                more = times + length * chance.choice((1, 2, 10 ** 18, (FAR - 1 - times) // length))
                self.assertLess(more, FAR)
                self.assertEqual(tell(sizes, start, row, more), tell(sizes, start, row, times))
                if times - length >= ahead:
                    self.assertEqual(tell(sizes, start, row, times - length), tell(sizes, start, row, times))

    def test_against_a_plain_walk(self):
        for chance, sizes, counts, row in loads(56, 500):
            rows, ahead = model_walk(model_round, sizes, counts, row)
            for times in [some_times(chance) for _ in range(4)] + [FAR - 1]:
                at = times if times < ahead else ahead + (times - ahead) % (len(rows) - ahead)
                self.assertEqual(behind_counts(sizes, counts, row, times), rows[at])

    def test_stands_against_a_plain_walk(self):
        for chance, sizes, stand, row in stands(57, 200):
            rows, ahead = model_walk(model_round_of_drops, sizes, stand, row)
            for times in [some_times(chance) for _ in range(4)] + [FAR - 1]:
                at = times if times < ahead else ahead + (times - ahead) % (len(rows) - ahead)
                told = behind(sizes, stand, row, times)
                self.assertEqual(told, rows[at])
                self.assertEqual(
                    counts_of(sizes, told), behind_counts(sizes, counts_of(sizes, stand), row, times))


class Rings(unittest.TestCase):

    def test_told_ones(self):
        self.assertEqual(ring((3, 5), (0, 0, 0), [("over", 1, 0, 1)]), (3, 1))
        self.assertEqual(ring((3, 5), (0, 0, 1), [("over", 1, 0, 1)]), (2, 1))
        self.assertEqual(ring_of_counts((3, 5), (3, 0), [("over", 1, 0, 1)]), (3, 1))
        self.assertEqual(turns((3, 5), (3, 0), [("over", 1, 0, 1)]), [(0, 3)])
        self.assertEqual(ring_of_counts((4, 4), (1, 3), SWAP), (0, 2))
        self.assertEqual(turns((4, 4), (1, 3), SWAP), [(1, 3), (3, 1)])
        self.assertEqual(ring_of_counts((4, 4), (2, 2), SWAP), (0, 1))
        self.assertEqual(turns((4, 4), (2, 2), SWAP), [(2, 2)])
        self.assertEqual(ring((4, 4), (0, 0, 1, 1), SWAP), (0, 2))
        self.assertEqual(ring_of_counts((4,) * 5, (1, 0, 0, 2, 3), SIX), (0, 6))
        self.assertEqual(ring((4,) * 5, (GONE, 0, 3), SIX), (0, 6))
        # One drop is lost in every second round.
        row = SWAP + [("drain", 1, 0)]
        self.assertEqual(turns((5, 5), (3, 0), row), [(0, 0)])
        self.assertEqual(ring_of_counts((5, 5), (3, 0), row), (6, 1))
        self.assertEqual(ring((5, 5), (0, GONE, 0), row), (4, 1))

    def test_no_deeds_and_no_drops(self):
        for row in ([], ()):
            self.assertEqual(ring((3, 4), (0, 1, GONE), row), (0, 1))
            self.assertEqual(ring_of_counts((3, 4), (1, 4), row), (0, 1))
            self.assertEqual(turns((3, 4), (1, 4), row), [(1, 4)])
        self.assertEqual(ring((3, 3), (), SWAP), (0, 1))
        self.assertEqual(ring((3, 3), (GONE, GONE), SWAP), (0, 1))
        self.assertEqual(ring_of_counts((3, 3), (0, 0), SWAP), (0, 1))

    def test_counts_against_a_plain_walk(self):
        seen = {}
        for _, sizes, counts, row in loads(58, 1500):
            rows, ahead = model_walk(model_round, sizes, counts, row)
            handed = list(row)
            for given in (row, tuple(row)):
                told = ring_of_counts(sizes, counts, given)
                self.assertEqual(told, (ahead, len(rows) - ahead), (sizes, counts, row))
                self.assertIs(type(told), tuple)
                self.assertEqual(turns(sizes, counts, given), rows[ahead:])
                self.assertIs(type(turns(sizes, counts, given)), list)
            self.assertEqual(row, handed)
            self.look_bounds(sizes, sum(counts), told)
            seen.setdefault(len(sizes), set()).add(told[1])
        self.assertEqual(set(seen), {1, 2, 3, 4, 5, 6})
        for casks in seen:
            self.assertTrue(seen[casks] >= set(range(1, min(casks, 4) + 1)), seen)

    def look_bounds(self, sizes, drops, told):
        ahead, length = told
        most = common_multiple(len(sizes))
        self.assertGreaterEqual(ahead, 0)
        self.assertGreaterEqual(length, 1)
        self.assertEqual(most % length, 0)
        self.assertLessEqual(ahead, drops * len(sizes) * most)

    def test_stands_against_a_plain_walk(self):
        for _, sizes, stand, row in stands(59, 400):
            rows, ahead = model_walk(model_round_of_drops, sizes, stand, row)
            handed = list(row)
            for given in (row, tuple(row)):
                told = ring(sizes, stand, given)
                self.assertEqual(told, (ahead, len(rows) - ahead), (sizes, stand, row))
                self.assertIs(type(told), tuple)
            self.assertEqual(row, handed)
            self.look_bounds(sizes, len(stand), told)

    def test_unlike_till_one_comes_again(self):
        for _, sizes, stand, row in stands(60, 150):
            ahead, length = ring(sizes, stand, row)
            rows = [behind(sizes, stand, row, times) for times in range(ahead + length)]
            self.assertEqual(len(set(rows)), len(rows))
            self.assertEqual(behind(sizes, stand, row, ahead + length), rows[ahead])

    def test_counts_unlike_till_some_come_again(self):
        for _, sizes, counts, row in loads(61, 300):
            ahead, length = ring_of_counts(sizes, counts, row)
            rows = [behind_counts(sizes, counts, row, times) for times in range(ahead + length)]
            self.assertEqual(len(set(rows)), len(rows))
            self.assertEqual(behind_counts(sizes, counts, row, ahead + length), rows[ahead])
            self.assertEqual(turns(sizes, counts, row), rows[ahead:])

    def test_a_ring_of_counts_and_that_of_its_stand(self):
        unlike = 0
        for _, sizes, stand, row in stands(62, 400):
            ahead, length = ring(sizes, stand, row)
            sooner, shorter = ring_of_counts(sizes, counts_of(sizes, stand), row)
            self.assertLessEqual(sooner, ahead)
            self.assertLessEqual(shorter, length)
            self.assertEqual(length % shorter, 0)
            unlike += (sooner, shorter) != (ahead, length)
        self.assertGreater(unlike, 20)

    def test_the_first_drops_alone(self):
        for chance, sizes, stand, row in stands(63, 150):
            ahead, length = ring(sizes, stand, row)
            for many in range(len(stand) + 1):
                sooner, shorter = ring(sizes, hidden(stand, many), row)
                self.assertEqual(length % shorter, 0)
                self.assertLessEqual(sooner, ahead)

    def test_rings_of_twelve(self):
        for sizes, counts, row in TWELVES:
            rows, ahead = model_walk(model_round, sizes, counts, row)
            self.assertEqual(ring_of_counts(sizes, counts, row), (ahead, 12))
            self.assertEqual(turns(sizes, counts, row), rows[ahead:])
            for times in (ahead + 10 ** 299, FAR - 1):
                told = behind_counts(sizes, counts, row, times)
                self.assertEqual(told, rows[ahead + (times - ahead) % 12])

    def test_told_lists_are_new(self):
        told = turns((4, 4), (1, 3), SWAP)
        told.append((9, 9))
        told[0] = None
        self.assertEqual(turns((4, 4), (1, 3), SWAP), [(1, 3), (3, 1)])


class CutAndDoubled(unittest.TestCase):

    def test_turned_about(self):
        for chance, sizes, stand, row in stands(64, 250):
            cut = chance.randint(0, len(row))
            first, second = row[:cut], row[cut:]
            about = second + first
            moved = done_all(sizes, stand, first)
            (ahead, length), (other, same) = ring(sizes, stand, row), ring(sizes, moved, about)
            self.assertEqual(same, length)
            self.assertIn(ahead - other, (0, 1))
            for times in (0, 1, ahead, ahead + length, some_times(chance)):
                told = behind(sizes, moved, about, times)
                self.assertEqual(told, done_all(sizes, behind(sizes, stand, row, times), first))

    def test_counts_turned_about(self):
        for chance, sizes, counts, row in loads(65, 400):
            cut = chance.randint(0, len(row))
            first, second = row[:cut], row[cut:]
            about = second + first
            moved = poured_all(sizes, counts, first)
            (ahead, length), (other, same) = ring_of_counts(sizes, counts, row), ring_of_counts(sizes, moved, about)
            self.assertEqual(same, length)
            self.assertIn(ahead - other, (0, 1))
            turned = [poured_all(sizes, each, first) for each in turns(sizes, counts, row)]
            self.assertEqual(sorted(turns(sizes, moved, about)), sorted(turned))
            times = some_times(chance)
            told = behind_counts(sizes, moved, about, times)
            self.assertEqual(told, poured_all(sizes, behind_counts(sizes, counts, row, times), first))

    def test_twice(self):
        for chance, sizes, stand, row in stands(66, 250):
            counts = some_counts(chance, sizes)
            for tell, tell_ring, start in ((behind, ring, stand), (behind_counts, ring_of_counts, counts)):
                ahead, length = tell_ring(sizes, start, row)
                halved = length // 2 if length % 2 == 0 else length
                self.assertEqual(tell_ring(sizes, start, row + row), ((ahead + 1) // 2, halved))
                times = some_times(chance) // 2
                self.assertEqual(tell(sizes, start, row + row, times), tell(sizes, start, row, 2 * times))


class Wholes(unittest.TestCase):

    def test_hidden_ahead_or_behind(self):
        for chance, sizes, stand, row in stands(67, 120):
            times = some_times(chance)
            whole = behind(sizes, stand, row, times)
            for many in range(len(stand) + 1):
                self.assertEqual(behind(sizes, hidden(stand, many), row, times), hidden(whole, many))

    def test_one_drop_more_stays_one_more_or_is_gone(self):
        for chance, sizes, counts, row in loads(68, 400):
            times = some_times(chance)
            fewer = behind_counts(sizes, counts, row, times)
            for cask in range(len(sizes)):
                if counts[cask] < sizes[cask]:
                    more = counts[:cask] + (counts[cask] + 1,) + counts[cask + 1:]
                    told = behind_counts(sizes, more, row, times)
                    self.assertIs(within(fewer, told), True)
                    self.assertIn(apart(fewer, told), (0, 1))


class GreatOnes(unittest.TestCase):

    def test_two_hundred_deeds_and_sixty_drops(self):
        for chance in chances(69, 6):
            sizes = (40,) * 6
            row = [some_deed(chance, sizes, DRY_WORDS[:3] * 3 + DRY_WORDS) for _ in range(200)]
            stand = tuple([chance.randrange(6) for _ in range(MOST_DROPS)])
            self.look_walk(sizes, stand, row)

    def test_small_pourings_of_full_casks(self):
        for chance in chances(70, 6):
            sizes = (40,) * 6
            row = [some_deed(chance, sizes, ("swap",)) for _ in range(3)] + [("over", 1, 0, 1), ("drain", 1, 2)]
            stand = (0,) * 40 + (1,) * 20
            self.look_walk(sizes, stand, row)
            counts = (40, 40, 40, 40, 40, 39)
            rows, ahead = model_walk(model_round, sizes, counts, row)
            self.assertEqual(ring_of_counts(sizes, counts, row), (ahead, len(rows) - ahead))
            self.assertEqual(turns(sizes, counts, row), rows[ahead:])

    def look_walk(self, sizes, stand, row):
        rows, ahead = model_walk(model_round_of_drops, sizes, stand, row)
        self.assertEqual(ring(sizes, stand, row), (ahead, len(rows) - ahead))
        for times in (ahead, len(rows), 10 ** 299, FAR - 1):
            at = times if times < ahead else ahead + (times - ahead) % (len(rows) - ahead)
            self.assertEqual(behind(sizes, stand, row, times), rows[at])

    def test_rows_somewhat_beyond_two_hundred(self):
        for many in (200, 201, 210):
            self.assertEqual(behind((2, 2), (0, 1, 1), SWAP * many, 3), (0, 1, 1) if many % 2 == 0 else (1, 0, 0))
            self.assertEqual(ring_of_counts((2, 2), (0, 1), SWAP * many), (0, 1 if many % 2 == 0 else 2))


class Refused(RefusalTest):

    def test_times(self):
        for times in BAD_TIMES:
            self.refused(BadTimes, {"word": "bad times"}, behind, (3, 3), (0,), SWAP, times)
            self.refused(BadTimes, {"word": "bad times"}, behind_counts, (3, 3), (1, 0), SWAP, times)
            self.refused(BadTimes, {}, behind, (3, 3), (), [], times)
            self.refused(BadTimes, {}, behind_counts, (3, 3), (0, 0), (), times)

    def test_the_first_tap_is_told(self):
        tap = ("tap", 1, 0)
        for number in range(4):
            for row in (SWAP * number + [tap], SWAP * number + [tap, tap] + SWAP, tuple(SWAP * number + [tap])):
                for call, start in ((ring, (0,)), (ring_of_counts, (1, 0)), (turns, (1, 0))):
                    self.refused(Tapped, {"step": number, "word": "tapped"}, call, (3, 3), start, row)
                for call, start in ((behind, (0,)), (behind_counts, (1, 0))):
                    for times in (0, 1, 2, FAR - 1, FAR, -1):
                        self.refused(Tapped, {"step": number}, call, (3, 3), start, row, times)
        # A tap of none is one, too.
        self.refused(Tapped, {"step": 0}, ring, (3, 3), (), [("tap", 0, 1)])

    def test_by_name(self):
        self.assertEqual(behind(times=3, deeds=SWAP, stand=(0,), sizes=(2, 2)), (1,))
        self.assertEqual(behind_counts(times=3, deeds=SWAP, counts=(1, 0), sizes=(2, 2)), (0, 1))
        self.assertEqual(ring(deeds=SWAP, stand=(0,), sizes=(2, 2)), (0, 2))
        self.assertEqual(ring_of_counts(deeds=SWAP, counts=(1, 0), sizes=(2, 2)), (0, 2))
        self.assertEqual(turns(deeds=SWAP, counts=(1, 0), sizes=(2, 2)), [(1, 0), (0, 1)])


if __name__ == "__main__":
    unittest.main()
