"""Points [1] and [9]: what holds of deeds over the whole, and casks that are called otherwise."""

import unittest

from hidelater.amounts import by_counts, poured, poured_all
from hidelater.casks import GONE, apart, counts_of, greater, hidden, lesser, within
from hidelater.errors import TooMany
from hidelater.ranks import done, done_all, path
from hidelater.rounds import Book
from hidelater.tables import one_more
from making import DRY_WORDS, chances, some_counts, some_deed, some_row, some_sizes, some_stand


class Hiding(unittest.TestCase):

    def test_hidden_ahead_or_behind(self):
        for chance in chances(31, 300):
            sizes = some_sizes(chance)
            stand = some_stand(chance, sizes)
            row = some_row(chance, sizes, DRY_WORDS)
            behind = done_all(sizes, stand, row)
            for many in range(len(stand) + 1):
                self.assertEqual(done_all(sizes, hidden(stand, many), row), hidden(behind, many))
                self.assertEqual(by_counts(sizes, hidden(stand, many), row), hidden(behind, many))

    def test_the_first_drops_of_rows_with_taps_too(self):
        seen = 0
        for chance in chances(32, 300):
            sizes = some_sizes(chance)
            stand = some_stand(chance, sizes, 20)
            row = some_row(chance, sizes, most=6)
            try:
                behind = done_all(sizes, stand, row)
                for many in range(len(stand) + 1):
                    told = done_all(sizes, hidden(stand, many), row)
                    self.assertEqual(hidden(told, many), hidden(behind, many))
                    seen += 1
            except TooMany:
                continue
        self.assertGreater(seen, 1000)

    def test_a_path_does_not_hang_on_later_drops(self):
        for chance in chances(33, 200):
            sizes = some_sizes(chance)
            stand = some_stand(chance, sizes, 30)
            row = some_row(chance, sizes, DRY_WORDS)
            for rank in range(len(stand)):
                told = path(sizes, stand, row, rank)
                self.assertEqual(path(sizes, hidden(stand, rank + 1), row, rank), told)


class Drops(unittest.TestCase):

    def test_none_is_made_or_lost_but_by_a_tap_or_a_drain(self):
        for chance in chances(34, 1500):
            sizes = some_sizes(chance)
            counts = some_counts(chance, sizes)
            deed = some_deed(chance, sizes)
            behind = poured(sizes, counts, deed)
            gain = sum(behind) - sum(counts)
            if deed[0] == "tap":
                self.assertEqual(gain, min(deed[1], sizes[deed[2]] - counts[deed[2]]))
            elif deed[0] == "drain":
                self.assertEqual(-gain, min(deed[1], counts[deed[2]]))
            else:
                self.assertEqual(gain, 0)
            casks = deed[1:] if deed[0] == "swap" else deed[2:]
            for cask in range(len(sizes)):
                if cask not in casks:
                    self.assertEqual(behind[cask], counts[cask])


class TwoLoads(unittest.TestCase):

    def test_more_in_each_cask_stays_more(self):
        for chance in chances(35, 1500):
            sizes = some_sizes(chance)
            one, other = some_counts(chance, sizes), some_counts(chance, sizes)
            low, high = lesser(one, other), greater(one, other)
            for deed in some_row(chance, sizes):
                low, high = poured(sizes, low, deed), poured(sizes, high, deed)
                self.assertIs(within(low, high), True, (sizes, low, high, deed))

    def test_no_two_loads_come_farther_apart(self):
        for chance in chances(36, 1500):
            sizes = some_sizes(chance)
            one, other = some_counts(chance, sizes), some_counts(chance, sizes)
            for deed in some_row(chance, sizes):
                ahead = apart(one, other)
                one, other = poured(sizes, one, deed), poured(sizes, other, deed)
                self.assertLessEqual(apart(one, other), ahead)

    def test_one_drop_more_is_one_more_or_gone(self):
        for chance in chances(37, 1500):
            sizes = some_sizes(chance)
            counts = some_counts(chance, sizes)
            cask = chance.randrange(len(sizes))
            if counts[cask] == sizes[cask]:
                continue
            more = counts[:cask] + (counts[cask] + 1,) + counts[cask + 1:]
            row = some_row(chance, sizes)
            fewer, more = poured_all(sizes, counts, row), poured_all(sizes, more, row)
            self.assertIs(within(fewer, more), True)
            self.assertIn(apart(fewer, more), (0, 1))


class CalledOtherwise(unittest.TestCase):
    """The casks in another order: `order` has the cask that stands at each place."""

    def renamed(self, order, cask):
        return cask if cask in (GONE, None) else order.index(cask)

    def moved(self, order, numbers):
        return tuple([numbers[cask] for cask in order])

    def places(self, order, stand):
        return tuple([self.renamed(order, cask) for cask in stand])

    def deed(self, order, deed):
        start = 1 if deed[0] == "swap" else 2
        return deed[:start] + self.places(order, deed[start:])

    def test_the_same_answers_called_otherwise(self):
        for chance in chances(38, 800):
            sizes = some_sizes(chance, 2)
            order = chance.sample(range(len(sizes)), len(sizes))
            row = some_row(chance, sizes, DRY_WORDS if chance.random() < 0.5 else ("over", "down", "tap", "drain"))
            new_sizes = self.moved(order, sizes)
            new_row = [self.deed(order, deed) for deed in row]
            self.look_counts(chance, order, sizes, row, new_sizes, new_row)
            self.look_stands(chance, order, sizes, row, new_sizes, new_row)
            book, new_book = Book(sizes), Book(new_sizes)
            book.write("a", row)
            new_book.write("a", new_row)
            self.assertEqual(new_book.flat("a"), [self.deed(order, deed) for deed in book.flat("a")])

    def look_counts(self, chance, order, sizes, row, new_sizes, new_row):
        counts = some_counts(chance, sizes)
        new_counts = self.moved(order, counts)
        self.assertEqual(
            poured_all(new_sizes, new_counts, new_row), self.moved(order, poured_all(sizes, counts, row)))
        table = self.places(order, self.moved(order, one_more(sizes, counts, row)))
        self.assertEqual(one_more(new_sizes, new_counts, new_row), table)
        for deed, new_deed in zip(row, new_row):
            self.assertEqual(
                poured(new_sizes, new_counts, new_deed), self.moved(order, poured(sizes, counts, deed)))

    def look_stands(self, chance, order, sizes, row, new_sizes, new_row):
        stand = some_stand(chance, sizes)
        new_stand = self.places(order, stand)
        try:
            behind = done_all(sizes, stand, row)
        except TooMany:
            with self.assertRaises(TooMany):
                done_all(new_sizes, new_stand, new_row)
            return
        self.assertEqual(done_all(new_sizes, new_stand, new_row), self.places(order, behind))
        for rank in range(len(stand)):
            told = path(sizes, stand, row, rank)
            self.assertEqual(tuple(path(new_sizes, new_stand, new_row, rank)), self.places(order, told))
        if row:
            self.assertEqual(done(new_sizes, new_stand, new_row[0]), self.places(order, done(sizes, stand, row[0])))
        if not any(deed[0] == "tap" for deed in row):
            self.assertEqual(by_counts(new_sizes, new_stand, new_row), self.places(order, behind))


if __name__ == "__main__":
    unittest.main()
