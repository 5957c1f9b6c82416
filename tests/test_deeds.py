"""Points [6] and [7]: hidelater.deeds."""

import unittest

from hidelater.deeds import GREAT, MOST_ROW, has_tap, look_deed, look_row
from hidelater.errors import BadDeed, BadRow
from helping import RefusalTest, bent

SIZES = (5, 40, 5, 17, 3, 17)

GOOD_DEEDS = (
    ("over", 0, 0, 1),
    ("over", 3, 5, 2, 0),
    ("over", GREAT - 1, 4, 3, 2, 1, 0, 5),
    ("down", 0, 1, 0),
    ("down", 7, 2, 5, 1, 3),
    ("down", GREAT - 1, 0, 1, 2, 3, 4, 5),
    ("swap", 0, 2),
    ("swap", 2, 0),
    ("swap", 3, 5),
    ("tap", 0, 0),
    ("tap", 41, 5),
    ("tap", GREAT - 1, 3),
    ("drain", 0, 5),
    ("drain", 2, 1),
    ("drain", GREAT - 1, 0),
)

# Each pair: no deed for SIZES, and the place with which it is refused.
BAD_DEEDS = (
    ((), 0),
    (("",), 0),
    (("pour", 1, 0, 1), 0),
    (("Over", 1, 0, 1), 0),
    (("over ", 1, 0, 1), 0),
    (("call", 1, 2), 0),
    (("x", -1), 0),
    (("over",), -1),
    (("over", 1), -1),
    (("over", 1, 0), -1),
    (("over", -1, 0), -1),
    (("over", 1, 0, 1, 2, 3, 4, 5, 0), -1),
    (("over", 1, 0, 1, 2, 3, 4, 5, 6), -1),
    (("down",), -1),
    (("down", 4, 2), -1),
    (("down", GREAT, 9, 9, 9, 9, 9, 9, 9), -1),
    (("swap",), -1),
    (("swap", 0), -1),
    (("swap", 0, 2, 2), -1),
    (("tap",), -1),
    (("tap", 3), -1),
    (("tap", 3, 0, 1), -1),
    (("drain",), -1),
    (("drain", -3), -1),
    (("drain", 3, 0, 1), -1),
    (("over", -1, 0, 1), 1),
    (("over", GREAT, 0, 1), 1),
    (("over", GREAT, 0, 0), 1),
    (("down", -1, 9, 1), 1),
    (("down", 10 ** 39, 0, 1), 1),
    (("tap", -1, 0), 1),
    (("tap", GREAT, 6), 1),
    (("drain", -(10 ** 39), 0), 1),
    (("drain", GREAT, 0), 1),
    (("over", 1, 6, 1), 2),
    (("over", 1, -1, 6), 2),
    (("over", 1, 0, 6), 3),
    (("over", 1, 0, 0), 3),
    (("over", 1, 0, 1, 0), 4),
    (("over", 1, 0, 1, 1, 0), 4),
    (("over", 1, 0, 1, 2, 3, 4, 2), 7),
    (("down", 1, 0, 1, 2, 3, 4, 6), 7),
    (("down", 1, 3, 1, 2, -2, 6), 5),
    (("tap", 1, 6), 2),
    (("tap", 1, -1), 2),
    (("drain", 1, GREAT), 2),
    (("drain", 1, -2), 2),
    (("swap", 6, 0), 1),
    (("swap", -1, 6), 1),
    (("swap", GREAT, GREAT), 1),
    (("swap", 0, 6), 2),
    (("swap", 0, -1), 2),
    (("swap", 0, 0), 2),
    (("swap", 0, 1), 2),
    (("swap", 3, 4), 2),
)


class Bounds(unittest.TestCase):

    def test_bounds(self):
        self.assertEqual(GREAT, int("1" + "0" * 30))
        self.assertEqual(MOST_ROW, 400)


class Deeds(RefusalTest):

    def test_good_deeds(self):
        for deed in GOOD_DEEDS:
            with self.subTest(deed=deed):
                self.assertIsNone(look_deed(SIZES, deed))

    def test_bad_deeds(self):
        for deed, place in BAD_DEEDS:
            with self.subTest(deed=deed):
                self.refused(BadDeed, {"place": place}, look_deed, SIZES, deed)

    def test_another_word(self):
        for deed in GOOD_DEEDS:
            for word in ("", "o", "call", "overdown", "OVER", "tap drain"):
                self.refused(BadDeed, {"place": 0}, look_deed, SIZES, bent(deed, 0, word))

    def test_another_number_at_any_place(self):
        for deed in GOOD_DEEDS:
            for place in range(1, len(deed)):
                for worth in (-1, -2, GREAT, 10 ** 39):
                    with self.subTest(deed=deed, place=place, worth=worth):
                        self.refused(BadDeed, {"place": place}, look_deed, SIZES, bent(deed, place, worth))

    def test_a_cask_that_there_is_not_at_any_place(self):
        for deed in GOOD_DEEDS:
            first = 1 if deed[0] == "swap" else 2
            for place in range(first, len(deed)):
                for worth in (6, 7, 40, GREAT - 1):
                    self.refused(BadDeed, {"place": place}, look_deed, SIZES, bent(deed, place, worth))

    def test_a_cask_twice(self):
        for deed in GOOD_DEEDS:
            first = 1 if deed[0] == "swap" else 2
            for place in range(first + 1, len(deed)):
                for earlier in range(first, place):
                    twice = bent(deed, place, deed[earlier])
                    self.refused(BadDeed, {"place": place}, look_deed, SIZES, twice)

    def test_many_may_be_as_a_cask(self):
        for cask in range(6):
            self.assertIsNone(look_deed(SIZES, ("tap", cask, cask)))
            self.assertIsNone(look_deed(SIZES, ("over", cask, cask, (cask + 1) % 6)))

    def test_each_count_of_casks(self):
        for casks in range(1, 7):
            sizes = (4,) * casks
            for word in ("over", "down"):
                for things in range(1, 10):
                    deed = (word, 2) + tuple(range(casks)) + (0, 1, 2, 3, 4, 5, 6, 7)
                    deed = deed[:things]
                    if 4 <= things <= casks + 2:
                        self.assertIsNone(look_deed(sizes, deed))
                    else:
                        self.refused(BadDeed, {"place": -1}, look_deed, sizes, deed)

    def test_swaps_by_sizes(self):
        sizes = (4, 7, 4, 7, 1)
        for one in range(5):
            for other in range(5):
                if one != other and sizes[one] == sizes[other]:
                    self.assertIsNone(look_deed(sizes, ("swap", one, other)))
                else:
                    self.refused(BadDeed, {"place": 2}, look_deed, sizes, ("swap", one, other))

    def test_one_cask(self):
        self.assertIsNone(look_deed((3,), ("tap", 5, 0)))
        self.assertIsNone(look_deed((3,), ("drain", 5, 0)))
        self.refused(BadDeed, {"place": -1}, look_deed, (3,), ("over", 1, 0))
        self.refused(BadDeed, {"place": -1}, look_deed, (3,), ("down", 1, 0, 1))
        self.refused(BadDeed, {"place": 2}, look_deed, (3,), ("swap", 0, 0))
        self.refused(BadDeed, {"place": 2}, look_deed, (3,), ("tap", 1, 1))

    def test_bad_sizes_go_ahead(self):
        self.bad_sizes_first(look_deed, (), ("tap", 1, 0), ("pour",), ("over", -1, 0), ("swap", 9, 9))


class Rows(RefusalTest):

    def test_good_rows(self):
        for row in ([], (), list(GOOD_DEEDS), GOOD_DEEDS, [GOOD_DEEDS[0]] * 400):
            self.assertIsNone(look_row(SIZES, row))

    def test_more_deeds_than_the_bound_are_not_refused(self):
        self.assertIsNone(look_row(SIZES, [("swap", 0, 2)] * 405))
        self.assertIs(has_tap(SIZES, [("swap", 0, 2)] * 405), False)

    def test_a_bad_deed_at_any_place(self):
        good = GOOD_DEEDS[::3]
        for deed, place in BAD_DEEDS:
            for step in range(len(good) + 1):
                row = good[:step] + (deed,) + good[step:]
                for call in (look_row, has_tap):
                    self.refused(BadRow, {"step": step, "place": place}, call, SIZES, row)
                    self.refused(BadRow, {"step": step, "place": place}, call, SIZES, list(row))

    def test_the_first_bad_deed_is_told(self):
        row = [GOOD_DEEDS[0], ("tap", -1, 0), (), ("over", 1), ("pour",)]
        for call in (look_row, has_tap):
            self.refused(BadRow, {"step": 1, "place": 1}, call, SIZES, row)
            self.refused(BadRow, {"step": 1, "place": 0}, call, SIZES, [row[0]] + row[2:])
            self.refused(BadRow, {"step": 0, "place": 0}, call, SIZES, row[::-1])
            self.refused(BadRow, {"step": 0, "place": -1}, call, SIZES, tuple(row[3:]))

    def test_a_bad_deed_as_the_last_of_four_hundred(self):
        row = [("tap", 1, 0)] * 399 + [("tap", 1, 6)]
        for call in (look_row, has_tap):
            self.refused(BadRow, {"step": 399, "place": 2}, call, SIZES, row)

    def test_has_tap(self):
        dry = tuple([deed for deed in GOOD_DEEDS if deed[0] != "tap"])
        for tap in (("tap", 0, 0), ("tap", 3, 5)):
            for step in range(len(dry) + 1):
                row = dry[:step] + (tap,) + dry[step:]
                self.assertIs(has_tap(SIZES, row), True)
                self.assertIs(has_tap(SIZES, list(row)), True)
        for row in (dry, dry[:1], (), [("drain", 4, 0)]):
            self.assertIs(has_tap(SIZES, row), False)
            self.assertIs(has_tap(SIZES, list(row)), False)

    def test_bad_sizes_go_ahead(self):
        for call in (look_row, has_tap):
            self.bad_sizes_first(call, (), [], [("tap", 1, 0)], [()], (("over", 1), ("pour",)), [("swap", 9, 9)])

    def test_what_is_handed_in_stays(self):
        row = [("tap", 1, 0), ("over", 2, 0, 1), ("pour", 1)]
        for call in (look_row, has_tap):
            with self.assertRaises(BadRow):
                call(SIZES, row)
            self.assertEqual(row, [("tap", 1, 0), ("over", 2, 0, 1), ("pour", 1)])
            call(SIZES, row[:2])
        good = list(GOOD_DEEDS)
        look_row(SIZES, good)
        has_tap(SIZES, good)
        self.assertEqual(good, list(GOOD_DEEDS))


class ByName(unittest.TestCase):

    def test_arguments_by_their_names(self):
        self.assertIsNone(look_deed(deed=("tap", 1, 0), sizes=(3,)))
        self.assertIsNone(look_row(deeds=[("tap", 1, 0)], sizes=(3,)))
        self.assertIs(has_tap(deeds=[("tap", 1, 0)], sizes=(3,)), True)


if __name__ == "__main__":
    unittest.main()
