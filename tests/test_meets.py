"""Points [1] and [13]: hidelater.meets."""

import unittest

from hidelater.amounts import poured_all
from hidelater.casks import apart
from hidelater.errors import BadCounts, Tapped
from hidelater.far import FAR, behind_counts, ring_of_counts
from hidelater.meets import apart_at_last, meet
from helping import RefusalTest
from making import DRY_WORDS, TWELVES, chances, some_counts, some_deed, some_load
from models import model_round

SWAP = [("swap", 0, 1)]
OVER = [("over", 1, 0, 1)]


def model_pairs(sizes, one, other, row):
    """A plain walk of both counts till both come again at once."""
    pairs = []
    while (one, other) not in pairs:
        pairs.append((one, other))
        one, other = model_round(sizes, one, row), model_round(sizes, other, row)
    return pairs


def model_meet(pairs):
    """The number of the first pair whose counts are alike, or None."""
    alike = [number for number, (one, other) in enumerate(pairs) if one == other]
    return alike[0] if alike else None


def model_apart(pairs):
    """How far apart they are at last, and the number of the first pair that is so far apart."""
    gaps = [sum(abs(a - b) for a, b in zip(one, other)) for one, other in pairs]
    return min(gaps), gaps.index(min(gaps))


class Told(unittest.TestCase):

    def test_told_ones(self):
        self.assertEqual(meet((3, 5), (3, 0), (0, 3), OVER), 3)
        self.assertEqual(apart_at_last((3, 5), (3, 0), (0, 3), OVER), (0, 3))
        self.assertEqual(meet((3, 5), (3, 0), (2, 1), OVER), 3)
        self.assertEqual(apart_at_last((3, 5), (3, 0), (2, 1), OVER), (0, 3))
        self.assertIsNone(meet((3, 5), (3, 0), (0, 0), OVER))
        self.assertEqual(apart_at_last((3, 5), (3, 0), (0, 0), OVER), (3, 0))
        self.assertIsNone(meet((3, 5), (3, 0), (0, 2), OVER))
        self.assertEqual(apart_at_last((3, 5), (3, 0), (0, 2), OVER), (1, 2))
        self.assertIsNone(meet((4, 4), (1, 3), (3, 1), SWAP))
        self.assertEqual(apart_at_last((4, 4), (1, 3), (3, 1), SWAP), (4, 0))
        drain = [("drain", 1, 0)]
        self.assertEqual(meet((9,), (9,), (0,), drain), 9)
        self.assertEqual(apart_at_last((9,), (9,), (0,), drain), (0, 9))
        self.assertEqual(meet((9,), (3,), (8,), drain), 8)
        # They come nearer only behind a while of being as far apart as at first.
        row = [("over", 1, 0, 1), ("down", 3, 1, 2), ("drain", 9, 2)]
        self.assertEqual(apart_at_last((5, 5, 5), (3, 0, 0), (3, 1, 0), row), (0, 3))

    def test_alike_at_first(self):
        for chance in chances(91, 100):
            sizes, counts, row = some_load(chance)
            self.assertEqual(meet(sizes, counts, counts, row), 0)
            self.assertEqual(apart_at_last(sizes, counts, counts, row), (0, 0))

    def test_no_deeds(self):
        for row in ([], ()):
            self.assertIsNone(meet((3, 4), (1, 4), (1, 3), row))
            self.assertEqual(apart_at_last((3, 4), (1, 4), (3, 0), row), (6, 0))
            self.assertEqual(meet((3, 4), (1, 4), (1, 4), row), 0)


class PlainWalk(unittest.TestCase):

    def loads(self, seed, many):
        for chance in chances(seed, many):
            sizes, counts, row = some_load(chance)
            yield chance, sizes, counts, some_counts(chance, sizes), row
        for chance, (sizes, counts, row) in zip(chances(seed, 3), TWELVES):
            yield chance, sizes, counts, some_counts(chance, sizes), list(row)

    def test_against_a_plain_walk(self):
        seen = {"alike": 0, "at once": 0, "later": 0, "never": 0, "nearer": 0}
        for _, sizes, one, other, row in self.loads(92, 1200):
            pairs = model_pairs(sizes, one, other, row)
            handed = list(row)
            for given in (row, tuple(row)):
                met, last = meet(sizes, one, other, given), apart_at_last(sizes, one, other, given)
                self.assertEqual(met, model_meet(pairs), (sizes, one, other, row))
                self.assertEqual(last, model_apart(pairs), (sizes, one, other, row))
                self.assertIs(type(last), tuple)
            self.assertEqual(row, handed)
            if met is None:
                seen["nearer" if last[1] > 0 else "never"] += 1
            else:
                seen["alike" if met == 0 else "at once" if met == 1 else "later"] += 1
        for kind, many in seen.items():
            self.assertGreater(many, 20, kind)

    def test_one_for_the_other(self):
        for _, sizes, one, other, row in self.loads(93, 300):
            self.assertEqual(meet(sizes, other, one, row), meet(sizes, one, other, row))
            self.assertEqual(apart_at_last(sizes, other, one, row), apart_at_last(sizes, one, other, row))

    def test_what_stands_behind(self):
        for chance, sizes, one, other, row in self.loads(94, 400):
            far, times = apart_at_last(sizes, one, other, row)
            met = meet(sizes, one, other, row)
            self.assertEqual(met, times if far == 0 else None)
            for more in (0, 1, chance.randrange(99), chance.randrange(10 ** 299), FAR - 1 - times):
                told = [behind_counts(sizes, each, row, times + more) for each in (one, other)]
                self.assertEqual(apart(*told), far)
            if times > 0:
                told = [behind_counts(sizes, each, row, times - 1) for each in (one, other)]
                self.assertGreater(apart(*told), far)

    def test_one_round_of_the_other(self):
        for _, sizes, counts, _, row in self.loads(95, 400):
            ahead, length = ring_of_counts(sizes, counts, row)
            met = meet(sizes, counts, poured_all(sizes, counts, row), row)
            self.assertEqual(met, ahead if length == 1 else None)

    def test_great_ones(self):
        for chance in chances(96, 6):
            sizes = (40,) * 6
            row = [some_deed(chance, sizes, DRY_WORDS[:3] * 4 + DRY_WORDS) for _ in range(200)]
            one, other = some_counts(chance, sizes), some_counts(chance, sizes)
            pairs = model_pairs(sizes, one, other, row)
            self.assertEqual(meet(sizes, one, other, row), model_meet(pairs))
            self.assertEqual(apart_at_last(sizes, one, other, row), model_apart(pairs))


class Refused(RefusalTest):

    def test_the_one_ahead_of_the_other(self):
        for call in (meet, apart_at_last):
            self.refused(BadCounts, {"cask": 1}, call, (3, 3), (0, 4), (4, 0), [()])
            self.refused(BadCounts, {"cask": 0}, call, (3, 3), (0, 3), (4, 0), [()])
            self.refused(BadCounts, {"cask": -1}, call, (3, 3), (0, 3, 1), (4, 0), [()])
            self.refused(BadCounts, {"cask": -1}, call, (3, 3), (0, 3), (), [("tap", 1, 0)])

    def test_the_first_tap_is_told(self):
        for call in (meet, apart_at_last):
            for number in range(3):
                row = SWAP * number + [("tap", 0, 1), ("tap", 1, 0)]
                self.refused(Tapped, {"step": number}, call, (3, 3), (0, 1), (0, 1), row)
                self.refused(Tapped, {"step": number}, call, (3, 3), (0, 1), (1, 0), tuple(row))

    def test_by_name(self):
        self.assertEqual(meet(deeds=OVER, other=(0, 3), one=(3, 0), sizes=(3, 5)), 3)
        self.assertEqual(apart_at_last(deeds=OVER, other=(0, 1), one=(3, 0), sizes=(3, 5)), (2, 1))


if __name__ == "__main__":
    unittest.main()
