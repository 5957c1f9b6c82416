"""Points [2], [3], [4], [5], [7], [12] and [16]: what is refused first, where one thing or more are bad in one call."""

import itertools
import unittest

from hidelater.amounts import by_counts, poured, poured_all
from hidelater.asks import first_time, never, never_holds, when
from hidelater.casks import GONE, counts_of, look_counts, look_sizes, look_stand, room, stand_of
from hidelater.deeds import GREAT, has_tap, look_deed, look_row
from hidelater.errors import (
    BadCounts, BadDeed, BadRow, BadSizes, BadStand, BadTimes, NoCask, NoDrop, Tapped, TooMany)
from hidelater.far import FAR, behind, behind_counts, ring, ring_of_counts, turns
from hidelater.kin import ends, kin, kin_holds
from hidelater.loft import Loft
from hidelater.meets import apart_at_last, meet
from hidelater.ranks import done, done_all, path
from hidelater.rounds import Book
from hidelater.tables import one_more
from helping import BAD_SIZES, RefusalTest

# Each thing that is handed in: a pair of the thing and its refusal, None for a good one. A refusal is a class with
# its fields. All are meant for casks of SIZES.
SIZES = (3, 40, 3)
GOOD = None

ALL_SIZES = [(SIZES, GOOD)] + [(sizes, (BadSizes, {"cask": cask})) for sizes, cask in BAD_SIZES]

ALL_COUNTS = [
    ((0, 0, 0), GOOD),
    ((3, 40, 3), GOOD),
    ((), (BadCounts, {"cask": -1})),
    ((1, 2), (BadCounts, {"cask": -1})),
    ((9, 9, 9, 9), (BadCounts, {"cask": -1})),
    ((4, 41, 4), (BadCounts, {"cask": 0})),
    ((3, 41, -1), (BadCounts, {"cask": 1})),
    ((0, 0, -(10 ** 39)), (BadCounts, {"cask": 2})),
]

ALL_STANDS = [
    ((), GOOD),
    ((1,) * 40 + (GONE,) * 14, GOOD),
    ((GONE,) * 61, (BadStand, {"rank": -1})),
    ((9,) * 70, (BadStand, {"rank": -1})),
    ((3,), (BadStand, {"rank": 0})),
    ((0, 2, -2, 5), (BadStand, {"rank": 2})),
    ((0, 0, 0, GONE, 0), (BadStand, {"rank": 4})),
    ((10 ** 39, 0), (BadStand, {"rank": 0})),
]

# Deeds with the place at which they are refused; good ones have None.
ALL_PLACES = [
    (("over", 1, 0, 1), None),
    (("swap", 0, 2), None),
    ((), 0),
    (("call", 1, 2), 0),
    (("pour", 1, 0, 1), 0),
    (("over", 1, 0), -1),
    (("down", 1, 0, 1, 2, 0), -1),
    (("tap", -1, 0), 1),
    (("drain", GREAT, 0), 1),
    (("drain", 0, 3), 2),
    (("swap", 0, 1), 2),
    (("over", 0, 1, 1), 3),
    (("down", 0, 1, 2, 1), 4),
]

ALL_DEEDS = [(deed, None if place is None else (BadDeed, {"place": place})) for deed, place in ALL_PLACES]


def rows_with(deed, place):
    """Rows with a deed at the first, a middle and the last place, and a worse one behind it."""
    good = [("over", 2, 1, 0), ("tap", 1, 2), ("drain", 1, 1)]
    for step in (0, 2, 3):
        row = good[:step] + [deed] + good[step:]
        refusal = None if place is None else (BadRow, {"step": step, "place": place})
        yield row, refusal
        yield tuple(row), refusal
        if place is not None:
            yield row + [(), ("swap", -1, -1)], refusal


ALL_ROWS = [([], GOOD), ((), GOOD)] + [each for deed, place in ALL_PLACES for each in rows_with(deed, place)]

# Rows to be done again and again: bad ones, those with a tap, and dry ones.
AGAIN = (
    [([], GOOD), ([("swap", 0, 2), ("over", 2, 1, 0)], GOOD), ((("drain", 1, 2), ("down", 1, 1, 2, 0)), GOOD)]
    + [(row, refusal) for row, refusal in ALL_ROWS if refusal is not None]
    + [
        ([("tap", 0, 1)], (Tapped, {"step": 0})),
        ((("swap", 0, 2), ("drain", 1, 2), ("tap", 1, 0), ("tap", 2, 0)), (Tapped, {"step": 2})),
    ]
)

ALL_TIMES = [(0, GOOD), (1, GOOD), (FAR - 1, GOOD)] + [
    (times, (BadTimes, {"word": "bad times"})) for times in (-1, FAR, -(10 ** 309), 10 ** 310 - 1)]

# Kin papers that don't hold for most counts, which is no refusal.
PAPERS = [(((0, 0, 0), []), GOOD), (((), [[], [((9,) * 7, (-1, 10 ** 39))]]), GOOD)]

CASKS = [(0, GOOD), (2, GOOD)] + [(cask, (NoCask, {"cask": cask})) for cask in (-1, 3, 10 ** 39, -(10 ** 39))]

# Never papers that show nothing for most counts, which is no refusal.
NEVERS = [(([], (3, 40, 3)), GOOD), (([(), (9,) * 7], (-1, 10 ** 39)), GOOD)]


class InTheirOrder(RefusalTest):

    def look_calls(self, call, *kinds, last=None):
        """Each choice of one thing of each kind; last tells the refusal where all of them are good ones."""
        seen = {}
        for choice in itertools.product(*kinds):
            given = [thing for thing, _ in choice]
            due = [refusal for _, refusal in choice if refusal is not None]
            if not due and last is not None:
                due = [refusal for refusal in [last(*given)] if refusal is not None]
            handed = [list(thing) if isinstance(thing, list) else thing for thing in given]
            if due:
                self.refused(due[0][0], due[0][1], call, *given)
                seen[due[0][0]] = True
            else:
                call(*given)
                seen[None] = True
            self.assertEqual(given, handed)
        return seen

    def test_counts_and_a_deed(self):
        seen = self.look_calls(poured, ALL_SIZES, ALL_COUNTS, ALL_DEEDS)
        self.assertEqual(set(seen), {None, BadSizes, BadCounts, BadDeed})

    def test_counts_and_a_row(self):
        for call in (poured_all, one_more):
            seen = self.look_calls(call, ALL_SIZES, ALL_COUNTS, ALL_ROWS)
            self.assertEqual(set(seen), {None, BadSizes, BadCounts, BadRow})

    def test_a_stand_and_a_deed(self):
        stands = ALL_STANDS + [((GONE,) * 60, GOOD)]
        deeds = ALL_DEEDS + [(("tap", 1, 0), GOOD), (("tap", 0, 0), GOOD)]

        def last(sizes, stand, deed):
            return (TooMany, {"most": 60}) if len(stand) == 60 and deed == ("tap", 1, 0) else None

        seen = self.look_calls(done, ALL_SIZES, stands, deeds, last=last)
        self.assertEqual(set(seen), {None, BadSizes, BadStand, BadDeed, TooMany})

    def test_a_stand_and_a_row(self):
        stands = ALL_STANDS + [((GONE,) * 60, GOOD)]

        def last(sizes, stand, row):
            return (TooMany, {"most": 60}) if len(stand) == 60 and ("tap", 1, 2) in row else None

        seen = self.look_calls(done_all, ALL_SIZES, stands, ALL_ROWS, last=last)
        self.assertEqual(set(seen), {None, BadSizes, BadStand, BadRow, TooMany})

    def test_a_stand_a_row_and_a_rank(self):
        stands = ALL_STANDS + [((GONE,) * 60, GOOD)]
        ranks = [(rank, GOOD) for rank in (0, 53, 59, -1, 60, 10 ** 39)]

        def last(sizes, stand, row, rank):
            if not 0 <= rank < len(stand):
                return (NoDrop, {"rank": rank})
            return (TooMany, {"most": 60}) if len(stand) == 60 and ("tap", 1, 2) in row else None

        seen = self.look_calls(path, ALL_SIZES, stands, ALL_ROWS, ranks, last=last)
        self.assertEqual(set(seen), {None, BadSizes, BadStand, BadRow, NoDrop, TooMany})

    def test_a_stand_and_a_row_by_counts(self):

        def last(sizes, stand, row):
            return (Tapped, {"step": row.index(("tap", 1, 2))}) if ("tap", 1, 2) in row else None

        seen = self.look_calls(by_counts, ALL_SIZES, ALL_STANDS, ALL_ROWS, last=last)
        self.assertEqual(set(seen), {None, BadSizes, BadStand, BadRow, Tapped})

    def test_a_stand_a_row_and_times(self):
        seen = self.look_calls(behind, ALL_SIZES, ALL_STANDS, AGAIN, ALL_TIMES)
        self.assertEqual(set(seen), {None, BadSizes, BadStand, BadRow, Tapped, BadTimes})

    def test_counts_a_row_and_times(self):
        seen = self.look_calls(behind_counts, ALL_SIZES, ALL_COUNTS, AGAIN, ALL_TIMES)
        self.assertEqual(set(seen), {None, BadSizes, BadCounts, BadRow, Tapped, BadTimes})

    def test_a_stand_and_a_row_again_and_again(self):
        seen = self.look_calls(ring, ALL_SIZES, ALL_STANDS, AGAIN)
        self.assertEqual(set(seen), {None, BadSizes, BadStand, BadRow, Tapped})

    def test_counts_and_a_row_again_and_again(self):
        for call in (ring_of_counts, turns, ends, kin):
            seen = self.look_calls(call, ALL_SIZES, ALL_COUNTS, AGAIN)
            self.assertEqual(set(seen), {None, BadSizes, BadCounts, BadRow, Tapped})

    def test_counts_a_row_and_a_kin_paper(self):
        seen = self.look_calls(kin_holds, ALL_SIZES, ALL_COUNTS, AGAIN, PAPERS)
        self.assertEqual(set(seen), {None, BadSizes, BadCounts, BadRow, Tapped})

    def test_two_counts_and_a_row(self):
        for call in (meet, apart_at_last):
            seen = self.look_calls(call, ALL_SIZES, ALL_COUNTS, ALL_COUNTS, AGAIN)
            self.assertEqual(set(seen), {None, BadSizes, BadCounts, BadRow, Tapped})

    def test_counts_a_row_and_a_cask(self):
        for ask in (when, first_time, never):
            for least in (-1, 1, 10 ** 39):
                seen = self.look_calls(
                    lambda sizes, counts, row, cask: ask(sizes, counts, row, least=least, cask=cask),
                    ALL_SIZES, ALL_COUNTS, AGAIN, CASKS)
                self.assertEqual(set(seen), {None, BadSizes, BadCounts, BadRow, Tapped, NoCask})

    def test_counts_a_row_a_never_paper_and_a_cask(self):
        seen = self.look_calls(
            lambda sizes, counts, row, paper, cask: never_holds(sizes, counts, row, paper, cask=cask),
            ALL_SIZES, ALL_COUNTS, AGAIN, NEVERS, CASKS)
        self.assertEqual(set(seen), {None, BadSizes, BadCounts, BadRow, Tapped, NoCask})


# Every door through which sizes come in, with worse things beside them.
COUNTS, STAND, DEED, ROW, TIMES = (-1,) * 7, (9,) * 61, (), [(), ("tap", 1, 0)], -1
DOORS = {
    "look_sizes": lambda sizes: look_sizes(sizes),
    "look_counts": lambda sizes: look_counts(sizes, COUNTS),
    "look_stand": lambda sizes: look_stand(sizes, STAND),
    "counts_of": lambda sizes: counts_of(sizes, STAND),
    "stand_of": lambda sizes: stand_of(sizes, COUNTS),
    "room": lambda sizes: room(sizes, COUNTS),
    "look_deed": lambda sizes: look_deed(sizes, DEED),
    "look_row": lambda sizes: look_row(sizes, ROW),
    "has_tap": lambda sizes: has_tap(sizes, ROW),
    "done": lambda sizes: done(sizes, STAND, DEED),
    "done_all": lambda sizes: done_all(sizes, STAND, ROW),
    "path": lambda sizes: path(sizes, STAND, ROW, -1),
    "poured": lambda sizes: poured(sizes, COUNTS, DEED),
    "poured_all": lambda sizes: poured_all(sizes, COUNTS, ROW),
    "by_counts": lambda sizes: by_counts(sizes, STAND, ROW),
    "one_more": lambda sizes: one_more(sizes, COUNTS, ROW),
    "Book": lambda sizes: Book(sizes),
    "behind": lambda sizes: behind(sizes, STAND, ROW, TIMES),
    "behind_counts": lambda sizes: behind_counts(sizes, COUNTS, ROW, TIMES),
    "ring": lambda sizes: ring(sizes, STAND, ROW),
    "ring_of_counts": lambda sizes: ring_of_counts(sizes, COUNTS, ROW),
    "turns": lambda sizes: turns(sizes, COUNTS, ROW),
    "ends": lambda sizes: ends(sizes, COUNTS, ROW),
    "kin": lambda sizes: kin(sizes, COUNTS, ROW),
    "kin_holds": lambda sizes: kin_holds(sizes, COUNTS, ROW, ((), [])),
    "meet": lambda sizes: meet(sizes, COUNTS, COUNTS, ROW),
    "apart_at_last": lambda sizes: apart_at_last(sizes, COUNTS, COUNTS, ROW),
    "when": lambda sizes: when(sizes, COUNTS, ROW, cask=-1),
    "first_time": lambda sizes: first_time(sizes, COUNTS, ROW, cask=-1),
    "never": lambda sizes: never(sizes, COUNTS, ROW, cask=-1),
    "never_holds": lambda sizes: never_holds(sizes, COUNTS, ROW, ([], ()), cask=-1),
    "Loft": lambda sizes: Loft(sizes, stand=STAND),
}


class EveryDoor(RefusalTest):

    def test_bad_sizes_go_ahead_of_all_else(self):
        for name, door in DOORS.items():
            for sizes, cask in BAD_SIZES:
                with self.subTest(door=name, sizes=sizes):
                    self.refused(BadSizes, {"cask": cask, "word": "bad sizes"}, door, sizes)

    def test_good_sizes_are_let_in(self):
        for name, door in DOORS.items():
            for sizes in ((1,), (40,), (3, 40, 3), (1, 2, 3, 4, 5, 6), (40,) * 6):
                if name in ("look_sizes", "Book"):
                    door(sizes)
                    continue
                with self.subTest(door=name, sizes=sizes):
                    with self.assertRaises((BadCounts, BadStand, BadDeed, BadRow)):
                        door(sizes)


if __name__ == "__main__":
    unittest.main()
