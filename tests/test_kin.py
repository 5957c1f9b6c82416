"""Points [1], [14] and [15]: hidelater.kin."""

import copy
import math
import unittest

from hidelater.amounts import poured_all
from hidelater.casks import greater, lesser, within
from hidelater.errors import Tapped
from hidelater.far import ring_of_counts, turns
from hidelater.kin import ends, kin, kin_holds
from helping import RefusalTest, bent
from making import TWELVES, chances, some_counts, some_load
from models import model_kin, model_kin_holds, model_round, model_turns

SWAP = [("swap", 0, 1)]
# Casks 0 to 2 go round by threes (what is in 0 goes to 2, in 2 to 1, in 1 to 0), 3 and 4 by twos.
SIX = [("swap", 0, 1), ("swap", 1, 2), ("swap", 3, 4)]


def loads(seed, many):
    """Triples of sizes, counts and a row without taps, those with rings of twelve ahead of the others."""
    for sizes, counts, row in TWELVES:
        yield sizes, counts, list(row)
    for chance in chances(seed, many):
        yield some_load(chance)


def family_bent(paper, number, family):
    """The paper with another family at that place."""
    least, families = paper
    return least, families[:number] + [family] + families[number + 1:]


def bent_counts(counts):
    """Counts bent once: a number, one out, one more, exchanged."""
    for place in range(len(counts)):
        for worth in (counts[place] - 1, counts[place] + 1, 0, -1, 41, 10 ** 39, -(10 ** 39)):
            yield bent(counts, place, worth)
        yield counts[:place] + counts[place + 1:]
        yield counts[:place] + (counts[place],) + counts[place:]
    yield ()
    yield counts + (0,)
    yield (0,) + counts
    yield counts[::-1]


def bent_casks(casks, many):
    """Casks that a member owns, bent once; there are so many casks."""
    yield ()
    yield casks[::-1]
    for place in range(len(casks)):
        yield casks[:place] + casks[place + 1:]
        yield casks + (casks[place],)
    for cask in range(-2, many + 2):
        yield casks + (cask,)
        yield (cask,) + casks
        yield (cask,)
    yield (10 ** 39,)


def bent_families(family, sizes):
    """A family bent once."""
    yield []
    for number, (member, casks) in enumerate(family):
        ahead, behind = family[:number], family[number + 1:]
        yield ahead + behind
        yield ahead + [family[number]] * 2 + behind
        yield behind + ahead + [family[number]]
        yield behind + [family[number]] + ahead
        yield [family[number]]
        for counts in bent_counts(member):
            yield ahead + [(counts, casks)] + behind
        for owned in bent_casks(casks, len(sizes)):
            yield ahead + [(member, owned)] + behind
    yield family[::-1]
    yield family + family


def bent_papers(paper, sizes):
    """A kin paper bent once, at any place."""
    least, families = paper
    for counts in bent_counts(least):
        yield counts, families
    yield least, []
    yield least, families[::-1]
    yield least, families + [[]]
    yield least, [[]] + families
    yield least, families + [[(least, (0,))]]
    yield least, families + [[(sizes, (0,))]]
    for number, family in enumerate(families):
        yield least, families[:number] + families[number + 1:]
        yield least, families + [family]
        yield least, [family]
        for other in bent_families(family, sizes):
            yield family_bent(paper, number, other)


class Ends(unittest.TestCase):

    def test_told_ones(self):
        self.assertEqual(ends((4, 4), (1, 3), SWAP), ((1, 1), (3, 3)))
        self.assertEqual(ends((3, 5), (3, 0), [("over", 1, 0, 1)]), ((0, 3), (0, 3)))
        self.assertEqual(ends((4,) * 5, (1, 0, 0, 2, 3), SIX), ((0, 0, 0, 2, 2), (1, 1, 1, 3, 3)))
        self.assertEqual(ends((4, 4), (1, 3), []), ((1, 3), (1, 3)))
        self.assertEqual(ends((4, 4), (1, 3), ()), ((1, 3), (1, 3)))

    def test_against_a_plain_walk(self):
        for sizes, counts, row in loads(81, 800):
            rows = model_turns(sizes, counts, row)
            handed = list(row)
            least = tuple([min(numbers) for numbers in zip(*rows)])
            greatest = tuple([max(numbers) for numbers in zip(*rows)])
            for given in (row, tuple(row)):
                told = ends(sizes, counts, given)
                self.assertEqual(told, (least, greatest))
                self.assertEqual([type(told), type(told[0]), type(told[1])], [tuple] * 3)
            self.assertEqual(row, handed)
            self.assertEqual(poured_all(sizes, least, row), least)
            self.assertEqual(poured_all(sizes, greatest, row), greatest)

    def test_lesser_and_greater_of_counts_that_come_again(self):
        for chance in chances(82, 400):
            sizes, counts, row = some_load(chance)
            one = chance.choice(turns(sizes, counts, row))
            other = chance.choice(turns(sizes, some_counts(chance, sizes), row))
            for mixed in (lesser, greater):
                both = mixed(one, other)
                self.assertEqual(ring_of_counts(sizes, both, row)[0], 0)
                led = mixed(poured_all(sizes, one, row), poured_all(sizes, other, row))
                self.assertEqual(poured_all(sizes, both, row), led)


class Kin(unittest.TestCase):

    def test_told_ones(self):
        self.assertEqual(kin((4, 4), (1, 3), SWAP), ((1, 1), [[((1, 3), (1,)), ((3, 1), (0,))]]))
        self.assertEqual(kin((4, 4), (2, 2), SWAP), ((2, 2), []))
        self.assertEqual(kin((4, 4), (1, 3), []), ((1, 3), []))
        self.assertEqual(kin((3, 5), (3, 0), [("over", 1, 0, 1)]), ((0, 3), []))
        self.assertEqual(kin((4,) * 5, (1, 0, 0, 2, 3), SIX), (
            (0, 0, 0, 2, 2),
            [
                [((0, 0, 0, 2, 3), (4,)), ((0, 0, 0, 3, 2), (3,))],
                [((0, 0, 1, 2, 2), (2,)), ((0, 1, 0, 2, 2), (1,)), ((1, 0, 0, 2, 2), (0,))],
            ],
        ))
        # Two casks each way, exchanged with two others: a member owns two casks.
        self.assertEqual(kin((4,) * 4, (3, 2, 0, 0), [("swap", 0, 2), ("swap", 1, 3)]), (
            (0, 0, 0, 0), [[((0, 0, 3, 2), (2, 3)), ((3, 2, 0, 0), (0, 1))]]))
        # Two families own the same casks, at other numbers.
        self.assertEqual(kin((4,) * 3, (3, 1, 0), SIX[:2]), (
            (0, 0, 0),
            [
                [((0, 0, 1), (2,)), ((0, 1, 0), (1,)), ((1, 0, 0), (0,))],
                [((0, 3, 1), (1,)), ((3, 1, 0), (0,)), ((1, 0, 3), (2,))],
            ],
        ))

    def test_against_the_words_of_the_point(self):
        seen = set()
        for sizes, counts, row in loads(83, 1200):
            handed = list(row)
            for given in (row, tuple(row)):
                told = kin(sizes, counts, given)
                self.assertEqual(told, model_kin(sizes, counts, row), (sizes, counts, row))
            self.look_kinds(told)
            self.assertEqual(row, handed)
            seen.add(tuple(sorted(len(family) for family in told[1])))
        self.assertTrue(seen >= {(), (2,), (3,), (3, 3), (4,), (2, 4)}, seen)

    def look_kinds(self, told):
        self.assertIs(type(told), tuple)
        self.assertEqual((type(told[0]), type(told[1])), (tuple, list))
        for family in told[1]:
            self.assertIs(type(family), list)
            for pair in family:
                self.assertEqual((type(pair), type(pair[0]), type(pair[1])), (tuple, tuple, tuple))

    def test_all_of_a_ring_have_the_same(self):
        for sizes, counts, row in loads(84, 300):
            told = kin(sizes, counts, row)
            for each in turns(sizes, counts, row):
                self.assertEqual(kin(sizes, each, row), told)

    def test_the_sum_of_it(self):
        for sizes, counts, row in loads(85, 800):
            least, families = kin(sizes, counts, row)
            rows = turns(sizes, counts, row)
            for each in rows:
                level = least
                for family in families:
                    for member, _ in family:
                        if within(member, each):
                            level = greater(level, member)
                self.assertEqual(level, each)
            for family in families:
                self.look_family(sizes, row, least, family)
            firsts = [family[0][0] for family in families]
            self.assertEqual(firsts, sorted(firsts))
            self.assertEqual(math.lcm(*[len(family) for family in families]), len(rows))
            members = [member for family in families for member, _ in family]
            self.assertEqual(len(set(members)), len(members))

    def look_family(self, sizes, row, least, family):
        members = [member for member, _ in family]
        self.assertEqual(min(members), members[0])
        self.assertGreater(len(members), 1)
        for member, following in zip(members, members[1:] + members[:1]):
            self.assertEqual(poured_all(sizes, member, row), following)
        owned = [cask for _, casks in family for cask in casks]
        self.assertEqual(len(set(owned)), len(owned))
        for member, casks in family:
            self.assertGreater(len(casks), 0)
            self.assertEqual(casks, tuple(sorted(casks)))
            for cask in casks:
                self.assertGreater(member[cask], least[cask])

    def test_told_lists_are_new(self):
        sizes, counts, row = (4,) * 5, (1, 0, 0, 2, 3), list(SIX)
        ahead = copy.deepcopy(kin(sizes, counts, row))
        told = kin(sizes, counts, row)
        told[1][0].append("x")
        told[1][1][0] = "y"
        told[1].append([])
        self.assertEqual(kin(sizes, counts, row), ahead)
        self.assertEqual(row, SIX)


class KinHolds(unittest.TestCase):

    def test_told_papers_hold_for_each_of_their_ring(self):
        for sizes, counts, row in loads(86, 500):
            paper = kin(sizes, counts, row)
            handed, kept = list(row), copy.deepcopy(paper)
            for each in turns(sizes, counts, row):
                self.assertIs(kin_holds(sizes, each, row, paper), True)
                self.assertIs(kin_holds(sizes, each, tuple(row), paper), True)
            self.assertEqual((row, paper), (handed, kept))

    def test_they_hold_for_no_others_ahead(self):
        seen = 0
        for sizes, counts, row in loads(87, 500):
            paper = kin(sizes, counts, row)
            told = kin_holds(sizes, counts, row, paper)
            self.assertIs(told, model_kin_holds(sizes, counts, row, paper))
            if ring_of_counts(sizes, counts, row)[0] > 0:
                self.assertIs(told, False)
                seen += 1
        self.assertGreater(seen, 100)

    def test_papers_bent_once(self):
        seen = {True: 0, False: 0}
        for sizes, counts, row in loads(88, 90):
            paper = kin(sizes, counts, row)
            rows = turns(sizes, counts, row)
            for number, other in enumerate(bent_papers(paper, sizes)):
                each = rows[number % len(rows)]
                kept = copy.deepcopy(other)
                told = kin_holds(sizes, each, row, other)
                self.assertIs(told, model_kin_holds(sizes, each, row, other), (sizes, each, row, other))
                self.assertEqual(other, kept)
                seen[told] += 1
        self.assertGreater(seen[True], 300)
        self.assertGreater(seen[False], 3000)

    def test_papers_of_other_loads_and_other_rows(self):
        seen = {True: 0, False: 0}
        for chance in chances(89, 800):
            sizes, counts, row = some_load(chance)
            other = row[:1] if chance.random() < 0.5 else []
            paper = kin(sizes, some_counts(chance, sizes), other if chance.random() < 0.5 else row)
            each = chance.choice(turns(sizes, counts, row) + [counts, paper[0]])
            told = kin_holds(sizes, each, row, paper)
            self.assertIs(told, model_kin_holds(sizes, each, row, paper))
            seen[told] += 1
        self.assertGreater(seen[True], 50)
        self.assertGreater(seen[False], 50)

    def holds(self, sizes, counts, row, least, families):
        told = kin_holds(sizes, counts, row, (least, families))
        self.assertIs(told, model_kin_holds(sizes, counts, row, (least, families)))
        return told

    def test_papers_that_no_ring_tells(self):
        sizes = (5, 5, 5)
        # Nothing is done, so all counts are led to themselves, and a family of one member is one.
        self.assertIs(self.holds(sizes, (2, 3, 0), [], (2, 3, 0), []), True)
        self.assertIs(self.holds(sizes, (2, 3, 0), [], (0, 0, 0), []), False)
        one, other = ((2, 0, 0), (0,)), ((0, 3, 0), (1,))
        self.assertIs(self.holds(sizes, (2, 3, 0), [], (0, 0, 0), [[one], [other]]), True)
        self.assertIs(self.holds(sizes, (2, 3, 0), [], (0, 0, 0), [[other], [one]]), True)
        self.assertIs(self.holds(sizes, (2, 3, 0), [], (0, 0, 0), [[one]]), False)
        self.assertIs(self.holds(sizes, (2, 3, 0), [], (0, 0, 0), [[one, other]]), False)
        self.assertIs(self.holds(sizes, (2, 3, 0), [], (0, 0, 0), [[((2, 3, 0), (1, 0))]]), True)
        self.assertIs(self.holds(sizes, (2, 3, 0), [], (0, 0, 0), [[((2, 3, 0), (0, 1))]]), True)
        self.assertIs(self.holds(sizes, (2, 3, 0), [], (0, 0, 0), [[((2, 3, 0), (0, 1, 2))]]), False)
        self.assertIs(self.holds(sizes, (2, 3, 0), [], (0, 0, 0), [[((2, 3, 0), ())]]), False)
        # One that is above the counts somewhere isn't taken, but must be right all the same.
        self.assertIs(self.holds(sizes, (2, 3, 0), [], (2, 3, 0), [[((2, 3, 1), (2,))]]), True)
        self.assertIs(self.holds(sizes, (2, 3, 0), [], (2, 3, 0), [[((2, 3, 6), (2,))]]), False)
        self.assertIs(self.holds(sizes, (2, 3, 0), [], (2, 3, 0), [[((0, 0, 1), (0,))]]), False)
        # The least ones above the counts.
        self.assertIs(self.holds(sizes, (2, 3, 0), [], (2, 3, 1), []), False)
        self.assertIs(self.holds(sizes, (2, 3, 0), [], (2, 4, 0), [[((3, 5, 1), (0,))]]), False)
        # One member twice in its family, with other casks.
        twice = [((2, 3, 0), (0,)), ((2, 3, 0), (1,))]
        self.assertIs(self.holds(sizes, (2, 3, 0), [], (0, 0, 0), [twice]), True)
        self.assertIs(self.holds(sizes, (2, 3, 0), [], (0, 0, 0), [twice[:1] * 2]), False)

    def test_families_may_share_casks(self):
        sizes, counts, row = (4,) * 2, (1, 3), SWAP
        family = [((1, 3), (1,)), ((3, 1), (0,))]
        self.assertIs(self.holds(sizes, counts, row, (1, 1), [family]), True)
        self.assertIs(self.holds(sizes, counts, row, (1, 1), [family, family]), True)
        self.assertIs(self.holds(sizes, counts, row, (1, 1), [family[::-1]]), True)
        self.assertIs(self.holds(sizes, counts, row, (0, 0), [family]), True)
        self.assertIs(self.holds(sizes, counts, row, (0, 1), [family]), False)
        self.assertIs(self.holds(sizes, counts, row, (1, 1), [family, [((2, 2), (0, 1))]]), True)
        self.assertIs(self.holds(sizes, counts, row, (1, 1), [family, []]), False)
        self.assertIs(self.holds(sizes, counts, row, (1, 1), [family * 2]), False)
        self.assertIs(self.holds(sizes, counts, row, (1, 1), [family[:1]]), False)
        self.assertIs(self.holds(sizes, counts, row, (1, 1), [[family[0], ((3, 2), (0,))]]), False)

    def test_casks_that_there_are_not(self):
        for cask in (-1, -2, -3, 2, 3, 10 ** 39, -(10 ** 39)):
            family = [((1, 3), (1,)), ((3, 1), (cask,))]
            self.assertIs(self.holds((4, 4), (1, 3), SWAP, (1, 1), [family]), False)
            family = [((1, 3), (1, cask)), ((3, 1), (0,))]
            self.assertIs(self.holds((4, 4), (1, 3), SWAP, (1, 1), [family]), False)

    def test_tuples_of_other_lengths(self):
        for least in ((), (1,), (1, 1, 1), (1, 1, 0), (1,) * 9):
            self.assertIs(self.holds((4, 4), (1, 3), SWAP, least, [[((1, 3), (1,)), ((3, 1), (0,))]]), False)
            self.assertIs(self.holds((4, 4), (1, 1), SWAP, least, []), False)
        for member in ((), (1,), (1, 3, 0), (1, 3) * 4):
            self.assertIs(self.holds((4, 4), (1, 3), SWAP, (1, 1), [[(member, (1,)), ((3, 1), (0,))]]), False)
            self.assertIs(self.holds((4, 4), (1, 3), SWAP, (1, 1), [[((3, 1), (0,)), (member, (1,))]]), False)
            self.assertIs(self.holds((4, 4), (1, 3), [], (1, 3), [[(member, (0,))]]), False)

    def test_numbers_that_are_no_counts(self):
        for number in (-1, 5, 6, 10 ** 39, -(10 ** 39)):
            self.assertIs(self.holds((4, 4), (1, 3), [], (1, number), []), False)
            self.assertIs(self.holds((4, 4), (1, 3), [], (1, 3), [[((2, number), (0,))]]), False)


class Refused(RefusalTest):

    def test_the_first_tap_is_told(self):
        tap = ("tap", 0, 0)
        paper = ((0, 0), [])
        for number in range(3):
            for row in (SWAP * number + [tap, tap], tuple(SWAP * number + [tap] + SWAP)):
                self.refused(Tapped, {"step": number}, ends, (3, 3), (1, 0), row)
                self.refused(Tapped, {"step": number}, kin, (3, 3), (1, 0), row)
                self.refused(Tapped, {"step": number}, kin_holds, (3, 3), (1, 0), row, paper)

    def test_by_name(self):
        self.assertEqual(ends(deeds=SWAP, counts=(1, 0), sizes=(2, 2)), ((0, 0), (1, 1)))
        paper = kin(deeds=SWAP, counts=(1, 0), sizes=(2, 2))
        self.assertEqual(paper, ((0, 0), [[((0, 1), (1,)), ((1, 0), (0,))]]))
        self.assertIs(kin_holds(paper=paper, deeds=SWAP, counts=(1, 0), sizes=(2, 2)), True)


class GreatOnes(unittest.TestCase):

    def test_two_hundred_deeds(self):
        for sizes, counts, row in TWELVES:
            many = list(row) * (200 // len(row))
            told = kin(sizes, counts, many)
            self.assertEqual(told, model_kin(sizes, counts, many))
            self.assertIs(kin_holds(sizes, turns(sizes, counts, many)[0], many, told), True)

    def test_twelve(self):
        for sizes, counts, row in TWELVES:
            least, families = kin(sizes, counts, row)
            self.assertEqual(sorted([len(family) for family in families]), [4, 6])
            self.assertEqual(ends(sizes, counts, row)[0], least)
            self.assertEqual(model_round(sizes, least, row), least)

    def test_casks_of_forty(self):
        sizes, row = (40,) * 6, [("swap", cask, cask + 1) for cask in range(5)]
        counts = (40, 0, 7, 33, 12, 1)
        least, families = kin(sizes, counts, row)
        self.assertEqual((least, families), model_kin(sizes, counts, row))
        self.assertEqual(sorted([len(family) for family in families]), [3, 6, 6, 6, 6])
        self.assertIs(kin_holds(sizes, counts, row, (least, families)), True)


if __name__ == "__main__":
    unittest.main()
