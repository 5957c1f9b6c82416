"""Points [6], [7] and [8]: hidelater.ranks."""

import unittest

from hidelater.casks import GONE, counts_of, look_stand
from hidelater.deeds import GREAT
from hidelater.errors import NoDrop, TooMany
from hidelater.ranks import done, done_all, path
from helping import RefusalTest
from making import chances, some_deed, some_row, some_sizes, some_stand
from models import model_done, model_done_all

# Each row: sizes, stand, deed, the stand behind; worked out by hand.
TOLD = (
    # The first ones go, by rank.
    ((9, 9), (0, 1, 0, 0), ("over", 0, 0, 1), (0, 1, 0, 0)),
    ((9, 9), (0, 1, 0, 0), ("over", 1, 0, 1), (1, 1, 0, 0)),
    ((9, 9), (0, 1, 0, 0), ("over", 2, 0, 1), (1, 1, 1, 0)),
    ((9, 9), (0, 1, 0, 0), ("over", 7, 0, 1), (1, 1, 1, 1)),
    ((9, 9), (0, 1, 0, 0), ("over", GREAT - 1, 1, 0), (0, 0, 0, 0)),
    # The last ones of a cask that is too full go on, also those that were in it.
    ((3, 2, 3), (0, 1, 0, 1), ("over", 2, 0, 1, 2), (1, 1, 2, 2)),
    ((3, 2, 3), (1, 0, 1, 0), ("over", 1, 0, 1, 2), (1, 1, 2, 0)),
    ((3, 2, 1), (0, 1, 2, 1, 0), ("over", 2, 0, 1, 2), (1, 1, 2, 0, 0)),
    # What is beyond the last cask's size comes back, also what wasn't in the first cask.
    ((3, 1), (0, 0, 1), ("over", 2, 0, 1), (1, 0, 0)),
    ((3, 1), (1, 0, 0), ("over", 2, 0, 1), (1, 0, 0)),
    ((2, 1, 1), (0, 2, 1, 0), ("over", 1, 0, 1, 2), (1, 2, 0, 0)),
    ((1, 2, 3, 1), (0, 1, 1, 2, 2, 2, 3), ("over", 5, 0, 1, 3, 2), (1, 1, 3, 2, 2, 2, 0)),
    # Another way of the same casks.
    ((1, 2, 3, 1), (3, 1, 1, 2, 2, 2, 0), ("over", 5, 0, 2, 1, 3), (3, 1, 1, 2, 2, 2, 0)),
    # All but the first ones go.
    ((9, 9), (0, 1, 0, 0), ("down", 0, 0, 1), (1, 1, 1, 1)),
    ((9, 9), (0, 1, 0, 0), ("down", 1, 0, 1), (0, 1, 1, 1)),
    ((9, 9), (0, 1, 0, 0), ("down", 2, 0, 1), (0, 1, 0, 1)),
    ((9, 9), (0, 1, 0, 0), ("down", 3, 0, 1), (0, 1, 0, 0)),
    ((9, 9), (0, 1, 0, 0), ("down", GREAT - 1, 0, 1), (0, 1, 0, 0)),
    ((4, 2, 1), (0, 0, 1, 0, 1, 0), ("down", 1, 0, 1, 2), (0, 1, 1, 2, 0, 0)),
    ((4, 2), (1, 0, 0, 1, 0), ("down", 2, 0, 1), (1, 0, 0, 1, 0)),
    # Swaps.
    ((3, 5, 3), (0, 1, 2, GONE, 0), ("swap", 0, 2), (2, 1, 0, GONE, 2)),
    ((3, 5, 3), (0, 1, 2, GONE, 0), ("swap", 2, 0), (2, 1, 0, GONE, 2)),
    ((1, 1), (), ("swap", 0, 1), ()),
    # Taps, as far as there is room.
    ((3, 5), (0, 1), ("tap", 0, 0), (0, 1)),
    ((3, 5), (0, 1), ("tap", 1, 0), (0, 1, 0)),
    ((3, 5), (0, 1), ("tap", 2, 0), (0, 1, 0, 0)),
    ((3, 5), (0, 1), ("tap", 3, 0), (0, 1, 0, 0)),
    ((3, 5), (GONE, 0, 1), ("tap", GREAT - 1, 1), (GONE, 0, 1, 1, 1, 1, 1)),
    ((3, 5), (0, 0, 0), ("tap", 4, 0), (0, 0, 0)),
    # Drains: gone, and the ranks stay.
    ((3, 5), (1, 0, 1, 1), ("drain", 0, 1), (1, 0, 1, 1)),
    ((3, 5), (1, 0, 1, 1), ("drain", 1, 1), (GONE, 0, 1, 1)),
    ((3, 5), (1, 0, 1, 1), ("drain", 2, 1), (GONE, 0, GONE, 1)),
    ((3, 5), (1, 0, 1, 1), ("drain", GREAT - 1, 1), (GONE, 0, GONE, GONE)),
    ((3, 5), (1, GONE, 1), ("drain", 3, 0), (1, GONE, 1)),
    # Those that are gone never come back and are in no cask.
    ((2, 2), (GONE, 0, GONE, 0), ("over", 9, 0, 1), (GONE, 1, GONE, 1)),
    ((2, 2), (GONE, 0, GONE, 0), ("down", 1, 0, 1), (GONE, 0, GONE, 1)),
)


class Done(RefusalTest):

    def test_told_ones(self):
        for sizes, stand, deed, behind in TOLD:
            with self.subTest(sizes=sizes, stand=stand, deed=deed):
                told = done(sizes, stand, deed)
                self.assertEqual(told, behind)
                self.assertIs(type(told), tuple)
                self.assertEqual(done_all(sizes, stand, [deed]), behind)

    def test_all_words_drop_by_drop(self):
        seen = {}
        for chance in chances(1, 3000):
            sizes = some_sizes(chance)
            stand = some_stand(chance, sizes)
            deed = some_deed(chance, sizes)
            behind = model_done(sizes, stand, deed)
            if behind is None:
                self.refused(TooMany, {"most": 60}, done, sizes, stand, deed)
            else:
                self.assertEqual(done(sizes, stand, deed), behind, (sizes, stand, deed))
                self.assertIsNone(look_stand(sizes, behind))
            seen[deed[0], behind is None] = True
        self.assertEqual(len(seen), 6)

    def test_which_casks_and_drops_are_touched(self):
        for chance in chances(2, 1500):
            sizes = some_sizes(chance)
            stand = some_stand(chance, sizes, 40)
            deed = some_deed(chance, sizes, ("over", "down", "swap", "drain"))
            behind = done(sizes, stand, deed)
            casks = deed[1:] if deed[0] == "swap" else deed[2:]
            self.assertEqual(len(behind), len(stand))
            for was, now in zip(stand, behind):
                if was not in casks:
                    self.assertEqual(now, was)
                elif deed[0] == "drain":
                    self.assertIn(now, (was, GONE))
                else:
                    self.assertIn(now, casks)
            lost = behind.count(GONE) - stand.count(GONE)
            if deed[0] == "drain":
                self.assertEqual(lost, min(deed[1], stand.count(deed[2])))
            else:
                self.assertEqual(lost, 0)

    def test_a_tap_only_adds_drops_behind_all_others(self):
        for chance in chances(3, 800):
            sizes = some_sizes(chance)
            stand = some_stand(chance, sizes, 20)
            deed = some_deed(chance, sizes, ("tap",))
            room = sizes[deed[2]] - counts_of(sizes, stand)[deed[2]]
            behind = done(sizes, stand, deed)
            self.assertEqual(behind[:len(stand)], stand)
            self.assertEqual(behind[len(stand):], (deed[2],) * min(deed[1], room))


class TooManyDrops(RefusalTest):

    def test_sixty_and_one_more(self):
        sizes = (40, 40)
        for gone in (0, 1, 10, 30, 49):
            stand = (GONE,) * gone + (0, 1) * ((50 - gone) // 2) + (0,) * (gone % 2)
            self.assertEqual(len(stand), 50)
            self.assertEqual(done(sizes, stand, ("tap", 10, 1)), stand + (1,) * 10)
            for many in (11, 12, GREAT - 1):
                self.refused(TooMany, {"most": 60}, done, sizes, stand, ("tap", many, 1))

    def test_only_those_that_come_are_counted(self):
        sizes = (40, 12)
        stand = (0,) * 40 + (1,) * 2
        self.assertEqual(done(sizes, stand, ("tap", GREAT - 1, 1)), stand + (1,) * 10)
        full = (0,) * 40 + (GONE,) * 8 + (1,) * 12
        self.assertEqual(len(full), 60)
        for cask in (0, 1):
            self.assertEqual(done(sizes, full, ("tap", 5, cask)), full)
        some = (0,) * 39 + (GONE,) * 21
        self.assertEqual(done(sizes, some, ("tap", 0, 1)), some)
        self.refused(TooMany, {"most": 60}, done, sizes, some, ("tap", 1, 0))
        self.refused(TooMany, {"most": 60}, done, sizes, some, ("tap", 1, 1))

    def test_those_that_are_gone_are_counted(self):
        self.refused(TooMany, {"most": 60}, done, (1,), (GONE,) * 60, ("tap", 1, 0))
        self.assertEqual(done((1,), (GONE,) * 59, ("tap", 1, 0)), (GONE,) * 59 + (0,))

    def test_a_tap_is_refused_when_its_turn_comes(self):
        sizes = (40, 40)
        stand = (0,) * 40 + (1,) * 19
        # The second cask takes none at first; the deed ahead makes the room, or takes it.
        self.assertEqual(done_all(sizes, stand, [("tap", 9, 0)]), stand)
        self.refused(TooMany, {"most": 60}, done_all, sizes, stand, [("drain", 5, 0), ("tap", 9, 0)])
        self.refused(TooMany, {"most": 60}, done_all, sizes, stand, [("tap", 1, 1), ("tap", 1, 1)])
        row = [("over", 40, 1, 0), ("tap", 1, 1), ("tap", 9, 0)]
        self.assertEqual(done_all(sizes, stand, row), stand + (1,))
        self.assertEqual(stand, (0,) * 40 + (1,) * 19)
        self.assertEqual(row, [("over", 40, 1, 0), ("tap", 1, 1), ("tap", 9, 0)])

    def test_a_late_tap_of_many(self):
        row = [("tap", 1, 0), ("drain", 1, 0)] * 60
        self.assertEqual(done_all((1,), (), row), (GONE,) * 60)
        self.refused(TooMany, {"most": 60}, done_all, (1,), (), row + [("tap", 1, 0)])
        self.refused(TooMany, {"most": 60}, path, (1,), (0,), [("drain", 1, 0)] + row, 0)
        self.assertEqual(done_all((1,), (), row + [("tap", 0, 0)]), (GONE,) * 60)


class DoneAllAndPath(RefusalTest):

    def test_rows_of_none_to_twelve(self):
        seen = {}
        for chance in chances(4, 1500):
            sizes = some_sizes(chance)
            stand = some_stand(chance, sizes, chance.choice((60, 20)))
            row = some_row(chance, sizes)
            stands = model_done_all(sizes, stand, row)
            seen[len(row), stands[-1] is None] = True
            handed = list(row)
            if stands[-1] is None:
                self.look_refused(sizes, stand, row)
            else:
                self.look_paths(sizes, stand, row, stands)
            self.assertEqual(row, handed)
        for many in range(13):
            self.assertIn((many, False), seen)
        self.assertGreater(sum(refused for _, refused in seen), 4)

    def look_refused(self, sizes, stand, row):
        for handed in (row, tuple(row)):
            self.refused(TooMany, {"most": 60}, done_all, sizes, stand, handed)
            if stand:
                self.refused(TooMany, {"most": 60}, path, sizes, stand, handed, len(stand) - 1)
            self.refused(NoDrop, {"rank": len(stand)}, path, sizes, stand, handed, len(stand))

    def look_paths(self, sizes, stand, row, stands):
        for handed in (row, tuple(row)):
            self.assertEqual(done_all(sizes, stand, handed), stands[-1])
            self.assertIs(type(done_all(sizes, stand, handed)), tuple)
        for rank in range(len(stand)):
            told = path(sizes, stand, row, rank)
            self.assertIs(type(told), list)
            self.assertEqual(len(told), len(row) + 1)
            self.assertEqual(told, [each[rank] for each in stands])
        if stand:
            self.assertEqual(path(sizes, stand, tuple(row), 0), path(sizes, stand, row, 0))
        for rank in (-1, -2, len(stand), len(stand) + 1, 60, 10 ** 39, -(10 ** 39)):
            self.refused(NoDrop, {"rank": rank}, path, sizes, stand, row, rank)

    def test_a_drop_of_a_tap_has_no_path(self):
        row = [("tap", 3, 0), ("over", 1, 0, 1)]
        self.assertEqual(done_all((5, 5), (1,), row), (1, 1, 0, 0))
        self.assertEqual(path((5, 5), (1,), row, 0), [1, 1, 1])
        for rank in (1, 2, 3, 4):
            self.refused(NoDrop, {"rank": rank}, path, (5, 5), (1,), row, rank)
        self.refused(NoDrop, {"rank": 0}, path, (5, 5), (), row, 0)

    def test_a_told_path(self):
        row = [("over", 1, 0, 1), ("swap", 1, 2), ("tap", 2, 1), ("drain", 1, 2), ("tap", 1, 2)]
        self.assertEqual(path((2, 3, 3), (0, 0), row, 0), [0, 1, 2, 2, GONE, GONE])
        self.assertEqual(path((2, 3, 3), (0, 0), row, 1), [0, 0, 0, 0, 0, 0])
        self.assertEqual(path((2, 3, 3), (GONE,), [], 0), [GONE])

    def test_no_drop_is_told_ahead_of_too_many(self):
        stand = (GONE,) * 60
        self.refused(NoDrop, {"rank": 60}, path, (3,), stand, [("tap", 1, 0)], 60)
        self.refused(NoDrop, {"rank": -1}, path, (3,), stand, [("tap", 1, 0)], -1)
        self.refused(TooMany, {"most": 60}, path, (3,), stand, [("tap", 1, 0)], 59)
        self.refused(TooMany, {"most": 60}, path, (3,), stand, [("tap", 1, 0)], 0)

    def test_a_path_that_was_told_is_its_own(self):
        row = [("over", 1, 0, 1)]
        told = path((2, 2), (0,), row, 0)
        told.append(7)
        told[0] = 9
        self.assertEqual(path((2, 2), (0,), row, 0), [0, 1])

    def test_four_hundred_deeds_and_some_more(self):
        for many in (400, 401, 410):
            row = [("swap", 0, 1)] * many
            self.assertEqual(done_all((2, 2), (0, 1, 1), row), (0, 1, 1) if many % 2 == 0 else (1, 0, 0))
            self.assertEqual(path((2, 2), (0, 1, 1), row, 0), [at % 2 for at in range(many + 1)])


class ByName(unittest.TestCase):

    def test_arguments_by_their_names(self):
        deed = ("over", 1, 0, 1)
        self.assertEqual(done(deed=deed, stand=(0, 0), sizes=(2, 2)), (1, 0))
        self.assertEqual(done_all(deeds=[deed], stand=(0, 0), sizes=(2, 2)), (1, 0))
        self.assertEqual(path(rank=0, deeds=[deed], stand=(0, 0), sizes=(2, 2)), [0, 1])


if __name__ == "__main__":
    unittest.main()
