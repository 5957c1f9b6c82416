"""Points [13] and [16]: hidelater.asks."""

import copy
import unittest

from hidelater.asks import first_time, never, never_holds, when
from hidelater.errors import NoCask, Tapped
from hidelater.far import FAR, behind_counts, ring_of_counts
from hidelater.kin import ends
from helping import RefusalTest, bent
from making import DRY_WORDS, TWELVES, chances, some_counts, some_deed, some_load
from models import model_are_counts, model_round, model_walk

SWAP = [("swap", 0, 1)]
OVER = [("over", 1, 0, 1)]


def some_least(chance, sizes, cask):
    """A `least`: below nought, nought, few, about the size and beyond."""
    size = sizes[cask]
    return chance.choice((-(10 ** 39), -1, 0, 1, 1, 2, chance.randint(0, size), size - 1, size, size + 1, 10 ** 39))


def asks(seed, many):
    """Loads, each with a cask and a least."""
    for chance in chances(seed, many):
        if chance.random() < 0.05:
            sizes, counts, row = chance.choice(TWELVES)
            row = list(row)
        else:
            sizes, counts, row = some_load(chance)
        cask = chance.randrange(len(sizes))
        yield chance, sizes, counts, row, cask, some_least(chance, sizes, cask)


def model_never_holds(sizes, counts, deeds, paper, cask, least):
    """Whether a never paper shows it, by the words of point [16] one after the other."""
    rows, lid = paper
    if not all(model_are_counts(sizes, row) for row in rows) or not model_are_counts(sizes, lid):
        return False
    if rows and rows[0] != counts:
        return False
    if any(model_round(sizes, one, deeds) != other for one, other in zip(rows, rows[1:])):
        return False
    last = model_round(sizes, rows[-1], deeds) if rows else counts
    if any(there < here for here, there in zip(last, lid)):
        return False
    if any(here > there for here, there in zip(model_round(sizes, lid, deeds), lid)):
        return False
    return all(row[cask] < least for row in rows) and lid[cask] < least


class When(unittest.TestCase):

    def test_told_ones(self):
        self.assertEqual(when((3, 5), (3, 0), OVER, cask=0), ([0, 1, 2], 3, 1, []))
        self.assertEqual(when((3, 5), (3, 0), OVER, cask=1), ([1, 2], 3, 1, [0]))
        self.assertEqual(when((3, 5), (3, 0), OVER, cask=1, least=2), ([2], 3, 1, [0]))
        self.assertEqual(when((3, 5), (3, 0), OVER, cask=1, least=4), ([], 3, 1, []))
        self.assertEqual(when((3, 5), (3, 0), OVER, cask=0, least=0), ([0, 1, 2], 3, 1, [0]))
        self.assertEqual(when((4, 4), (1, 3), SWAP, cask=0, least=2), ([], 0, 2, [1]))
        self.assertEqual(when((4, 4), (1, 3), SWAP, cask=1, least=2), ([], 0, 2, [0]))
        self.assertEqual(when((4, 4), (1, 3), SWAP, cask=1), ([], 0, 2, [0, 1]))
        self.assertEqual(when((4, 4), (0, 3), [], cask=0), ([], 0, 1, []))
        self.assertEqual(when((4, 4), (0, 3), (), cask=1, least=3), ([], 0, 1, [0]))

    def test_against_a_plain_walk(self):
        seen = set()
        for _, sizes, counts, row, cask, least in asks(101, 1500):
            rows, ahead = model_walk(model_round, sizes, counts, row)
            handed = list(row)
            for given in (row, tuple(row)):
                told = when(sizes, counts, given, cask=cask, least=least)
                self.assertEqual([type(told)] + [type(each) for each in told], [tuple, list, int, int, list])
                early, told_ahead, length, rests = told
                self.assertEqual((told_ahead, length), (ahead, len(rows) - ahead))
                self.assertEqual(early, [t for t in range(ahead) if rows[t][cask] >= least])
                self.assertEqual(rests, [t - ahead for t in range(ahead, len(rows)) if rows[t][cask] >= least])
            self.assertEqual(row, handed)
            self.assertEqual((told_ahead, length), ring_of_counts(sizes, counts, row))
            seen.add((bool(early), bool(rests), len(rests) == length))
        self.assertEqual(len(seen), 6)

    def test_at_any_times(self):
        for chance, sizes, counts, row, cask, least in asks(102, 300):
            early, ahead, length, rests = when(sizes, counts, row, cask=cask, least=least)
            some = [chance.randrange(bound) for bound in (FAR, 10 ** 40, 30)] + [FAR - 1 - chance.randrange(20)]
            for times in some + list(range(max(0, ahead - 2), ahead + length + 2)):
                there = behind_counts(sizes, counts, row, times)[cask] >= least
                told = times in early if times < ahead else (times - ahead) % length in rests
                self.assertIs(told, there)

    def test_told_lists_are_new(self):
        for ask in (lambda: when((4, 4), (1, 3), SWAP, cask=1), lambda: when((3, 5), (3, 0), OVER, cask=0)):
            ahead = copy.deepcopy(ask())
            told = ask()
            told[0].append(7)
            told[3].append(8)
            self.assertEqual(ask(), ahead)


class FirstTime(unittest.TestCase):

    def test_told_ones(self):
        self.assertEqual(first_time((3, 5), (3, 0), OVER, cask=1), 1)
        self.assertEqual(first_time((3, 5), (3, 0), OVER, cask=1, least=3), 3)
        self.assertIsNone(first_time((3, 5), (3, 0), OVER, cask=1, least=4))
        self.assertEqual(first_time((3, 5), (3, 0), OVER, cask=1, least=0), 0)
        self.assertEqual(first_time((3, 5), (3, 0), OVER, cask=1, least=-5), 0)
        self.assertEqual(first_time((3, 5), (3, 0), OVER, cask=0, least=3), 0)
        self.assertEqual(first_time((4, 4), (1, 3), SWAP, cask=0, least=2), 1)

    def test_against_a_plain_walk(self):
        seen = {"none": 0, "at first": 0, "ahead": 0, "in the ring": 0}
        for _, sizes, counts, row, cask, least in asks(103, 1500):
            rows, ahead = model_walk(model_round, sizes, counts, row)
            held = [t for t in range(len(rows)) if rows[t][cask] >= least]
            told = first_time(sizes, counts, row, cask=cask, least=least)
            self.assertEqual(told, held[0] if held else None)
            self.assertEqual(first_time(sizes, counts, tuple(row), cask=cask, least=least), told)
            if told is None:
                seen["none"] += 1
            else:
                seen["at first" if told == 0 else "ahead" if told < ahead else "in the ring"] += 1
        self.assertGreater(min(seen.values()), 10, seen)


class Never(unittest.TestCase):

    def test_told_ones(self):
        self.assertEqual(never((3, 5), (3, 0), OVER, cask=1, least=4), ([(3, 0), (2, 1), (1, 2)], (0, 3)))
        self.assertIsNone(never((3, 5), (3, 0), OVER, cask=1, least=3))
        self.assertIsNone(never((3, 5), (3, 0), OVER, cask=1))
        self.assertIsNone(never((3, 5), (3, 0), OVER, cask=0, least=3))
        self.assertIsNone(never((3, 5), (3, 0), OVER, cask=0, least=0))
        self.assertEqual(never((4, 4), (1, 3), SWAP, cask=0, least=4), ([], (3, 3)))
        self.assertIsNone(never((4, 4), (1, 3), SWAP, cask=0, least=3))
        self.assertEqual(never((4, 4), (0, 3), [], cask=0), ([], (0, 3)))
        self.assertEqual(never((4, 4), (0, 0), SWAP, cask=1), ([], (0, 0)))

    def test_against_a_plain_walk(self):
        seen = {True: 0, False: 0}
        for _, sizes, counts, row, cask, least in asks(104, 1500):
            rows, ahead = model_walk(model_round, sizes, counts, row)
            handed = list(row)
            told = never(sizes, counts, row, cask=cask, least=least)
            self.assertEqual(never(sizes, counts, tuple(row), cask=cask, least=least), told)
            self.assertEqual(row, handed)
            seen[told is None] += 1
            if any(each[cask] >= least for each in rows):
                self.assertIsNone(told)
                self.assertIsNotNone(first_time(sizes, counts, row, cask=cask, least=least))
                continue
            self.assertIsNone(first_time(sizes, counts, row, cask=cask, least=least))
            self.assertEqual(told, (rows[:ahead], tuple([max(numbers) for numbers in zip(*rows[ahead:])])))
            self.assertEqual((type(told), type(told[0]), type(told[1])), (tuple, list, tuple))
            self.assertEqual((len(told[0]), told[1]), (ahead, ends(sizes, counts, row)[1]))
            self.assertIs(never_holds(sizes, counts, row, told, cask=cask, least=least), True)
        self.assertGreater(min(seen.values()), 200)

    def test_told_lists_are_new(self):
        told = never((3, 5), (3, 0), OVER, cask=1, least=4)
        told[0].append(None)
        told[0][0] = None
        self.assertEqual(never((3, 5), (3, 0), OVER, cask=1, least=4), ([(3, 0), (2, 1), (1, 2)], (0, 3)))


def bent_numbers(counts):
    """Counts bent once: a number, one out, one more."""
    for place in range(len(counts)):
        for worth in (counts[place] - 1, counts[place] + 1, 0, -1, 41, 10 ** 39):
            yield bent(counts, place, worth)
        yield counts[:place] + counts[place + 1:]
    yield ()
    yield counts + (0,)
    yield counts[::-1]


def bent_papers(paper, sizes, counts, row):
    """A never paper bent once, at any place."""
    rows, lid = paper
    for other in bent_numbers(lid):
        yield rows, other
    yield rows, sizes
    yield rows, counts
    yield [], lid
    yield [counts], lid
    yield rows + [lid], lid
    yield rows + [model_round(sizes, rows[-1], row) if rows else counts], lid
    yield rows[::-1], lid
    for number, each in enumerate(rows):
        yield rows[:number] + rows[number + 1:], lid
        yield rows[:number], lid
        yield rows[number:], lid
        yield rows[:number] + [each] + rows[number:], lid
        if number in (0, 1, len(rows) - 1):
            for other in bent_numbers(each):
                yield bent_row(rows, number, other), lid


def bent_row(rows, number, other):
    return rows[:number] + [other] + rows[number + 1:]


class NeverHolds(unittest.TestCase):

    def look(self, sizes, counts, row, paper, cask, least):
        told = never_holds(sizes, counts, row, paper, cask=cask, least=least)
        self.assertIs(
            told, model_never_holds(sizes, counts, row, paper, cask, least), (sizes, counts, row, paper, cask, least))
        return told

    def test_papers_bent_once(self):
        seen = {True: 0, False: 0}
        for chance, sizes, counts, row, cask, _ in asks(105, 150):
            rows, _ = model_walk(model_round, sizes, counts, row)
            most = max(each[cask] for each in rows)
            paper = never(sizes, counts, row, cask=cask, least=most + 1)
            for other in bent_papers(paper, sizes, counts, row):
                kept = copy.deepcopy(other)
                for least in (most + 1, most, most + 2, 41):
                    seen[self.look(sizes, counts, row, other, cask, least)] += 1
                self.assertEqual(other, kept)
        self.assertGreater(seen[True], 500)
        self.assertGreater(seen[False], 3000)

    def test_told_papers_for_other_casks_and_leasts(self):
        for chance, sizes, counts, row, cask, _ in asks(106, 300):
            paper = never(sizes, counts, row, cask=cask, least=41)
            for other in range(len(sizes)):
                most = max([each[other] for each in paper[0]] + [paper[1][other]])
                for least in (-3, 0, most - 1, most, most + 1, 10 ** 39):
                    told = never_holds(sizes, counts, row, paper, cask=other, least=least)
                    self.assertIs(told, least > most)

    def test_without_rows(self):
        sizes = (5, 5)
        # A lid that the row leads to less.
        drain = [("drain", 1, 0)]
        self.assertIs(self.look(sizes, (3, 2), drain, ([], (3, 2)), 0, 4), True)
        self.assertIs(self.look(sizes, (3, 2), drain, ([], (4, 2)), 0, 5), True)
        self.assertIs(self.look(sizes, (3, 2), drain, ([], (4, 2)), 0, 4), False)
        self.assertIs(self.look(sizes, (3, 2), drain, ([], (2, 2)), 0, 4), False)
        self.assertIs(self.look(sizes, (3, 2), drain, ([(3, 2)], (2, 2)), 0, 4), True)
        self.assertIs(self.look(sizes, (3, 2), drain, ([(3, 2)], (2, 2)), 0, 3), False)
        self.assertIs(self.look(sizes, (3, 2), drain, ([(3, 2)], (1, 2)), 0, 4), False)
        # A lid that the row leads to more somewhere.
        self.assertIs(self.look(sizes, (3, 2), OVER, ([], (3, 2)), 0, 4), False)
        self.assertIs(self.look(sizes, (3, 2), OVER, ([], (3, 5)), 0, 4), True)
        self.assertIs(self.look(sizes, (3, 2), OVER, ([], (3, 5)), 1, 5), False)
        self.assertIs(self.look(sizes, (3, 2), [], ([], (3, 2)), 0, 4), True)
        self.assertIs(self.look(sizes, (3, 2), [], ([(3, 2), (3, 2)], (3, 2)), 0, 4), True)
        self.assertIs(self.look(sizes, (3, 2), [], ([(3, 2), (3, 1)], (3, 2)), 0, 4), False)
        self.assertIs(self.look(sizes, (3, 2), [], ([(3, 1)], (3, 2)), 0, 4), False)

    def test_tuples_of_other_lengths(self):
        for other in ((), (3,), (3, 2, 0), (3, 2) * 5):
            self.assertIs(self.look((5, 5), (3, 2), [], ([], other), 0, 9), False)
            self.assertIs(self.look((5, 5), (3, 2), [], ([other], (3, 2)), 0, 9), False)
            self.assertIs(self.look((5, 5), (3, 2), [], ([(3, 2), other], (3, 2)), 0, 9), False)
        for number in (-1, 6, 10 ** 39, -(10 ** 39)):
            self.assertIs(self.look((5, 5), (3, 2), [], ([], (3, number)), 0, 9), False)
            self.assertIs(self.look((5, 5), (3, 2), [], ([(3, number)], (3, 2)), 0, 9), False)


class Defaults(RefusalTest):

    def test_least_is_one_where_it_is_left_out(self):
        for _, sizes, counts, row, cask, _ in asks(107, 200):
            for ask in (when, first_time, never):
                self.assertEqual(ask(sizes, counts, row, cask=cask), ask(sizes, counts, row, least=1, cask=cask))
            paper = never(sizes, counts, row, cask=cask, least=41)
            self.assertIs(never_holds(sizes, counts, row, paper, cask=cask),
                          never_holds(sizes, counts, row, paper, cask=cask, least=1))

    def test_by_name(self):
        given = {"least": 2, "deeds": SWAP, "cask": 0, "counts": (1, 3), "sizes": (4, 4)}
        self.assertEqual(when(**given), ([], 0, 2, [1]))
        self.assertEqual(first_time(**given), 1)
        self.assertIsNone(never(**given))
        self.assertIs(never_holds(paper=([], (3, 3)), **given), False)
        self.assertIs(never_holds(cask=0, paper=([], (3, 3)), least=4, deeds=SWAP, counts=(1, 3), sizes=(4, 4)), True)

    def test_behind_a_star(self):
        for ask in (when, first_time, never):
            with self.assertRaises(TypeError):
                ask((4, 4), (1, 3), SWAP, 0)
        with self.assertRaises(TypeError):
            never_holds((4, 4), (1, 3), SWAP, ([], (3, 3)), 0)


class Refused(RefusalTest):

    def test_casks_that_there_are_not(self):
        for cask in (-1, -2, 2, 3, 6, 10 ** 39, -(10 ** 39)):
            for ask in (when, first_time, never):
                for least in (-1, 0, 1, 10 ** 39):
                    told = {"cask": cask, "word": "no cask"}
                    self.refused(NoCask, told, ask, (4, 4), (1, 3), SWAP, cask=cask, least=least)
            for paper in (([], (3, 3)), ([()], ())):
                self.refused(NoCask, {"cask": cask}, never_holds, (4, 4), (1, 3), SWAP, paper, cask=cask)

    def test_taps_go_ahead_of_casks(self):
        row = SWAP + [("tap", 0, 1)]
        for ask in (when, first_time, never):
            self.refused(Tapped, {"step": 1}, ask, (4, 4), (1, 3), row, cask=2)
            self.refused(Tapped, {"step": 1}, ask, (4, 4), (1, 3), tuple(row), cask=0)
        self.refused(Tapped, {"step": 1}, never_holds, (4, 4), (1, 3), row, ([], (3, 3)), cask=-1)


class GreatOnes(unittest.TestCase):

    def test_two_hundred_deeds(self):
        for chance in chances(108, 6):
            sizes = (40,) * 6
            row = [some_deed(chance, sizes, DRY_WORDS[:3] * 4 + DRY_WORDS) for _ in range(200)]
            counts = some_counts(chance, sizes)
            rows, ahead = model_walk(model_round, sizes, counts, row)
            for cask in range(6):
                held = [t for t in range(len(rows)) if rows[t][cask] >= 20]
                told = when(sizes, counts, row, cask=cask, least=20)
                self.assertEqual(told[0] + [ahead + rest for rest in told[3]], held)
                paper = never(sizes, counts, row, cask=cask, least=20)
                self.assertEqual(paper is None, bool(held))


if __name__ == "__main__":
    unittest.main()
