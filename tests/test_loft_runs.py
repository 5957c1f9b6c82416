"""Points [1], [2] and [19]: lofts through many steps, against a plain book of the steps."""

import unittest

from hidelater.amounts import poured_all
from hidelater.casks import GONE, apart, hidden
from hidelater.errors import (
    BadDeed, BadName, BadRow, BadTimes, InUse, NoDrop, NoRound, NothingLeft, Taken, Tapped, TooLong, TooMany)
from hidelater.far import FAR
from hidelater.loft import Loft
from hidelater.pages import page, read_page
from helping import RefusalTest
from making import DRY_WORDS, WORDS, chances, some_deed, some_row, some_sizes, some_stand, some_turning
from models import model_done_all, model_round, model_round_of_drops, model_walk

NAMES = "abcdefghijklmnop"
BAD_DEEDS = (((), 0), (("pour", 1, 0), 0), (("tap", 0), -1), (("tap", -1, 0), 1), (("drain", 1, 9), 2))


def at_times(lead, sizes, start, deeds, times):
    """What stands behind so many rounds, by a plain walk."""
    rows, ahead = model_walk(lead, sizes, start, deeds)
    return rows[times if times < ahead else ahead + (times - ahead) % (len(rows) - ahead)]


class PlainBook:
    """A loft told once more: what it was behind each step is kept as a whole, and asked anew each time."""

    def __init__(self, sizes, stand):
        self.sizes = sizes
        # Each: the step, the deeds that it does and how often, the stand and the rounds behind it.
        self.past = [(None, [], 0, stand, [])]
        self.future = []

    def twin(self):
        other = PlainBook(self.sizes, ())
        other.past, other.future = list(self.past), list(self.future)
        return other

    def stand(self):
        return self.past[-1][3]

    def rounds(self):
        return self.past[-1][4]

    def find(self, name):
        return dict(self.rounds()).get(name)

    def flat(self, steps):
        deeds = []
        for step in steps:
            deeds += self.flat(self.find(step[1])) * step[2] if step[0] == "call" else [step]
        return deeds

    def callers(self, name):
        return [user for user, steps in self.rounds() if any(step[:2] == ("call", name) for step in steps)]

    def add(self, step, deeds, times, stand, rounds):
        self.past.append((step, deeds, times, stand, rounds))
        self.future = []

    def pour(self, step, deeds, times):
        """Do deeds that are good; told is whether there are too many drops then."""
        if times > 1:
            stand = at_times(model_round_of_drops, self.sizes, self.stand(), deeds, times)
        else:
            stand = model_done_all(self.sizes, self.stand(), deeds * times)[-1]
        if stand is None:
            return True
        self.add(step, deeds, times, stand, self.rounds())
        return False

    def undo(self):
        self.future.append(self.past.pop())
        return self.future[-1][0]

    def redo(self):
        self.past.append(self.future.pop())
        return self.past[-1][0]

    def path(self, rank):
        return [row[3][rank] if rank < len(row[3]) else None for row in self.past]

    def led(self, counts):
        for _, deeds, times, _, _ in self.past:
            if times > 1:
                counts = at_times(model_round, self.sizes, counts, deeds, times)
            else:
                counts = model_round(self.sizes, counts, deeds * times)
        return counts

    def counts(self, stand):
        return tuple([stand.count(cask) for cask in range(len(self.sizes))])

    def one_more(self):
        first = self.counts(self.past[0][3])
        last = self.led(first)
        table = []
        for cask, size in enumerate(self.sizes):
            if first[cask] == size:
                table.append(None)
                continue
            more = self.led(first[:cask] + (first[cask] + 1,) + first[cask + 1:])
            grown = [end for end in range(len(self.sizes)) if more[end] != last[end]]
            table.append(grown[0] if grown else GONE)
        return tuple(table)


class Driver(RefusalTest):
    """Good and bad steps, done to a loft and to a plain book."""

    def words(self, chance):
        return WORDS if chance.random() < 0.3 else DRY_WORDS

    def some_step(self, chance, loft, book):
        """Do one step or try to; told is what came of it."""
        kind = chance.choice(("do", "do", "all of", "run", "run", "write", "write", "drop", "undo", "undo", "redo"))
        if kind == "do":
            return self.do(chance, loft, book)
        if kind == "all of":
            return self.all_of(chance, loft, book)
        if kind == "run":
            return self.run_round(chance, loft, book)
        if kind == "write":
            return self.write(chance, loft, book)
        if kind == "drop":
            return self.let_go(chance, loft, book)
        return self.back_or_forth(kind, loft, book)

    def do(self, chance, loft, book):
        if chance.random() < 0.1:
            deed, place = chance.choice(BAD_DEEDS)
            self.refused(BadDeed, {"place": place}, loft.do, deed)
            return BadDeed
        deed = some_deed(chance, book.sizes, self.words(chance))
        if book.pour(("do", (deed,)), [deed], 1):
            self.refused(TooMany, {"most": 60}, loft.do, deed)
            return TooMany
        self.assertIsNone(loft.do(deed))
        return "do"

    def all_of(self, chance, loft, book):
        row = some_row(chance, book.sizes, self.words(chance), 5)
        if chance.random() < 0.1:
            number = chance.randint(0, len(row))
            deed, place = chance.choice(BAD_DEEDS)
            row = row[:number] + [deed] + row[number:]
            self.refused(BadRow, {"step": number, "place": place}, loft.all_of, row)
            return BadRow
        if book.pour(("do", tuple(row)), row, 1):
            self.refused(TooMany, {"most": 60}, loft.all_of, row)
            return TooMany
        self.assertIsNone(loft.all_of(tuple(row) if chance.random() < 0.5 else row))
        return "all of"

    def run_round(self, chance, loft, book):
        names = [name for name, _ in book.rounds()]
        name = chance.choice(names * 4 + ["none"])
        times = chance.choice((0, 1, 1, 2, 3, chance.randrange(50), chance.randrange(FAR), FAR - 1, -1, FAR))
        steps = book.find(name)
        if steps is None:
            self.refused(NoRound, {"name": name}, loft.run, name, times=times)
            return NoRound
        if not 0 <= times < FAR:
            self.refused(BadTimes, {}, loft.run, name, times=times)
            return BadTimes
        deeds = book.flat(steps)
        taps = [number for number, deed in enumerate(deeds) if deed[0] == "tap"]
        if times > 1 and taps:
            self.refused(Tapped, {"step": taps[0]}, loft.run, name, times=times)
            return Tapped
        if book.pour(("run", name, times), deeds, times):
            self.refused(TooMany, {"most": 60}, loft.run, name, times=times)
            return TooMany
        self.assertIsNone(loft.run(name) if times == 1 else loft.run(name, times=times))
        return "run"

    def write(self, chance, loft, book):
        name = chance.choice(NAMES) if chance.random() < 0.95 else "Bad"
        steps = some_row(chance, book.sizes, self.words(chance), 3)
        for _ in range(chance.randint(0, 2)):
            names = [other for other, _ in book.rounds()]
            call = ("call", chance.choice(names * 9 + ["none"]), chance.choice((0, 1, 2, 9)))
            steps.insert(chance.randint(0, len(steps)), call)
        due = self.due_of_writing(book, name, steps)
        if due is not None:
            self.refused(due[0], due[1], loft.write, name, steps)
            return due[0]
        book.add(("write", name, tuple(steps)), [], 0, book.stand(), book.rounds() + [(name, list(steps))])
        self.assertIsNone(loft.write(name, steps))
        # Nothing that was handed in is kept.
        steps.append(())
        return "write"

    def due_of_writing(self, book, name, steps):
        if name == "Bad":
            return BadName, {}
        if book.find(name) is not None:
            return Taken, {"name": name}
        if len(book.rounds()) == 12:
            return TooMany, {"most": 12}
        for step in steps:
            if step[0] == "call" and book.find(step[1]) is None:
                return NoRound, {"name": step[1]}
        if len(book.flat(steps)) > 200:
            return TooLong, {"most": 200}
        return None

    def let_go(self, chance, loft, book):
        name = chance.choice(NAMES)
        if book.find(name) is None:
            self.refused(NoRound, {"name": name}, loft.drop, name)
            return NoRound
        if book.callers(name):
            self.refused(InUse, {"name": book.callers(name)[0]}, loft.drop, name)
            return InUse
        book.add(("drop", name), [], 0, book.stand(), [row for row in book.rounds() if row[0] != name])
        self.assertIsNone(loft.drop(name))
        return "drop"

    def back_or_forth(self, kind, loft, book):
        there = len(book.past) > 1 if kind == "undo" else len(book.future) > 0
        act = loft.undo if kind == "undo" else loft.redo
        if not there:
            self.refused(NothingLeft, {}, act)
            return NothingLeft
        self.assertEqual(act(), book.undo() if kind == "undo" else book.redo())
        return kind

    def look(self, loft, book):
        """All that a loft tells, against the book."""
        stand = book.stand()
        self.assertEqual((loft.sizes(), loft.stand()), (book.sizes, stand))
        self.assertEqual(loft.counts(), book.counts(stand))
        self.assertEqual(loft.steps(), [row[0] for row in book.past[1:]])
        self.assertEqual(loft.left(), (len(book.past) - 1, len(book.future)))
        told = loft.rounds()
        self.assertEqual([(name, told.steps(name)) for name in told.names()], book.rounds())
        self.assertEqual((loft.drops(), len(loft)), (len(stand), len(stand) - stand.count(GONE)))
        self.assertEqual(repr(loft), f"Loft({len(book.sizes)} casks, {len(stand) - stand.count(GONE)} drops)")
        self.assertEqual(loft.gone(), [rank for rank in range(len(stand)) if stand[rank] == GONE])
        for cask in range(len(book.sizes)):
            self.assertEqual(loft.ranks(cask), [rank for rank in range(len(stand)) if stand[rank] == cask])

    def look_drops(self, loft, book):
        for rank, place in enumerate(book.stand()):
            self.assertEqual((loft.where(rank), loft.path(rank)), (place, book.path(rank)))
        self.refused(NoDrop, {"rank": loft.drops()}, loft.path, loft.drops())
        self.refused(NoDrop, {"rank": -1}, loft.where, -1)
        self.assertEqual(loft.one_more(), book.one_more())


def begun(chance):
    """A loft and a plain book of the same."""
    sizes = some_sizes(chance) if chance.random() < 0.5 else some_turning(chance)[0]
    stand = some_stand(chance, sizes, chance.choice((60, 40, 10)))
    return Loft(sizes, stand=stand), PlainBook(sizes, stand)


class LongRuns(Driver):

    def test_step_by_step(self):
        seen = {}
        for chance in chances(141, 150):
            loft, book = begun(chance)
            for number in range(60):
                seen[self.some_step(chance, loft, book)] = True
                self.look(loft, book)
                if number % 12 == 11:
                    self.look_drops(loft, book)
        self.assertEqual(set(seen), {
            "do", "all of", "run", "write", "drop", "undo", "redo", BadDeed, BadRow, BadTimes, BadName, InUse, NoRound,
            NothingLeft, Taken, Tapped, TooLong, TooMany})

    def test_more_than_a_hundred_steps_to_both_ends(self):
        for chance in chances(142, 8):
            loft, book = begun(chance)
            while len(book.past) < 120:
                if self.some_step(chance, loft, book) == "undo":
                    loft.redo()
                    book.redo()
            self.look(loft, book)
            self.look_drops(loft, book)
            while len(book.past) > 1:
                self.assertEqual(loft.undo(), book.undo())
                self.look(loft, book)
            self.look_drops(loft, book)
            while book.future:
                self.assertEqual(loft.redo(), book.redo())
                self.look(loft, book)
            self.look_drops(loft, book)

    def test_twins_and_their_twins(self):
        for chance in chances(143, 40):
            pairs = [begun(chance)]
            for _ in range(60):
                loft, book = chance.choice(pairs)
                if chance.random() < 0.1 and len(pairs) < 5:
                    pairs.append((loft.twin(), book.twin()))
                self.some_step(chance, loft, book)
                for each in pairs:
                    self.look(*each)
            for loft, book in pairs:
                self.look_drops(loft, book)
                for other, told in pairs:
                    alike = book.stand() == told.stand() and book.rounds() == told.rounds()
                    self.assertIs(loft == other, alike)
                    self.assertIs(loft != other, not alike)
                    there, here = book.counts(book.stand()), told.counts(told.stand())
                    self.assertEqual(loft.apart(other), sum(abs(a - b) for a, b in zip(there, here)))

    def test_pages_of_lofts_on_the_way(self):
        for chance in chances(144, 25):
            loft, book = begun(chance)
            for _ in range(30):
                self.some_step(chance, loft, book)
                text = page(loft)
                self.assertEqual(text, str(loft))
                other = read_page(text)
                self.assertIs(other == loft, True)
                self.assertEqual((page(other), other.left()), (text, (0, 0)))
                self.assertEqual(other.one_more(), PlainBook(book.sizes, book.stand()).one_more())
            self.look(loft, book)


class Wholes(unittest.TestCase):

    def some_acts(self, chance, sizes, words, many=8):
        """Steps that can be done to several lofts, as pairs of a method's name and what is handed in."""
        acts = [("write", ("a", some_row(chance, sizes, words, 4)), {})]
        for _ in range(many):
            kind = chance.choice(("do", "all_of", "run", "undo", "redo"))
            if kind == "do":
                acts.append((kind, (some_deed(chance, sizes, words),), {}))
            elif kind == "all_of":
                acts.append((kind, (some_row(chance, sizes, words, 4),), {}))
            elif kind == "run":
                times = chance.choice((0, 1, 1, 2, chance.randrange(FAR))) if words == DRY_WORDS else 1
                acts.append((kind, ("a",), {"times": times}))
            else:
                acts.append((kind, (), {}))
        return acts

    def act(self, loft, acts):
        """Do all; told is False where there would be too many drops."""
        for name, given, named in acts:
            try:
                getattr(loft, name)(*given, **named)
            except (NothingLeft, NoRound):
                # Nothing to take back, or the round was taken back: of each loft alike.
                pass
            except TooMany:
                return False
        return True

    def test_hiding_goes_with_histories(self):
        for chance in chances(145, 120):
            sizes = some_sizes(chance)
            loft = Loft(sizes, stand=some_stand(chance, sizes))
            acts = self.some_acts(chance, sizes, DRY_WORDS)
            lofts = [loft.hidden(many) for many in range(loft.drops() + 1)]
            self.act(loft, acts)
            for many, other in enumerate(lofts):
                self.act(other, acts)
                self.assertEqual(other.stand(), hidden(loft.stand(), many))
                self.assertTrue(other == loft.hidden(many))
                self.assertEqual(other.left(), loft.left())
                for rank in range(many):
                    self.assertEqual(other.path(rank), loft.path(rank))

    def test_the_first_drops_through_taps_too(self):
        seen = 0
        for chance in chances(146, 120):
            sizes = some_sizes(chance)
            loft = Loft(sizes, stand=some_stand(chance, sizes, 10))
            acts = self.some_acts(chance, sizes, WORDS, 5)
            lofts = [loft.hidden(many) for many in range(loft.drops() + 1)]
            if not self.act(loft, acts):
                continue
            for many, other in enumerate(lofts):
                if self.act(other, acts):
                    self.assertEqual(hidden(other.stand(), many), hidden(loft.stand(), many))
                    seen += 1
        self.assertGreater(seen, 200)

    def test_one_drop_more_through_histories(self):
        for chance in chances(147, 200):
            sizes = some_sizes(chance)
            stand = some_stand(chance, sizes, 59)
            acts = self.some_acts(chance, sizes, DRY_WORDS)
            loft = Loft(sizes, stand=stand)
            self.act(loft, acts)
            for cask, end in enumerate(loft.one_more()):
                if stand.count(cask) == sizes[cask]:
                    self.assertIsNone(end)
                    continue
                more = Loft(sizes, stand=stand + (cask,))
                self.act(more, acts)
                self.assertEqual(more.stand(), loft.stand() + (end,))
                self.assertEqual(more.apart(loft), 0 if end == GONE else 1)

    def test_lofts_come_no_farther_apart(self):
        for chance in chances(148, 200):
            sizes = some_sizes(chance)
            one, other = [Loft(sizes, stand=some_stand(chance, sizes, 30)) for _ in range(2)]
            words = chance.choice((DRY_WORDS, WORDS))
            for each in self.some_acts(chance, sizes, words):
                ahead = one.apart(other)
                if each[0] in ("undo", "redo") or not self.act(one, [each]):
                    break
                if not self.act(other, [each]):
                    break
                self.assertLessEqual(one.apart(other), ahead)
                self.assertEqual(one.apart(other), apart(one.counts(), other.counts()))

    def test_questions_change_nothing(self):
        for chance in chances(149, 60):
            sizes = some_sizes(chance)
            loft = Loft(sizes, stand=some_stand(chance, sizes))
            self.act(loft, self.some_acts(chance, sizes, DRY_WORDS))
            ahead = (loft.stand(), loft.steps(), loft.left(), page(loft))
            for name in loft.rounds().names():
                loft.ring(name)
            loft.hidden(loft.drops()).do(("drain", 1, 0))
            loft.twin().do(("drain", 1, 0))
            loft.apart(loft)
            loft.one_more()
            self.assertEqual((loft.stand(), loft.steps(), loft.left(), page(loft)), ahead)


class GreatOnes(unittest.TestCase):

    def test_sixty_drops_and_rounds_of_two_hundred(self):
        for chance in chances(150, 3):
            sizes = (40,) * 6
            stand = tuple([chance.randrange(6) for _ in range(60)])
            loft = Loft(sizes, stand=stand)
            row = [some_deed(chance, sizes, DRY_WORDS[:3]) for _ in range(200)]
            loft.write("a", row)
            loft.run("a", times=FAR - 1)
            rows, ahead = model_walk(model_round_of_drops, sizes, stand, row)
            at = ahead + (FAR - 1 - ahead) % (len(rows) - ahead)
            self.assertEqual(loft.stand(), rows[at])
            self.assertEqual(loft.ring("a"), (0, len(rows) - ahead))
            loft.undo()
            self.assertEqual(loft.ring("a"), (ahead, len(rows) - ahead))

    def test_four_hundred_deeds(self):
        for chance in chances(151, 3):
            sizes = (40,) * 6
            stand = tuple([chance.randrange(6) for _ in range(60)])
            loft = Loft(sizes, stand=stand)
            row = [some_deed(chance, sizes, DRY_WORDS) for _ in range(400)]
            loft.all_of(row)
            self.assertEqual(loft.stand(), model_round_of_drops(sizes, stand, row))
            self.assertEqual(loft.counts(), poured_all(sizes, Loft(sizes, stand=stand).counts(), row))

    def test_twelve_rounds_that_call_one_another(self):
        sizes = (7, 7, 7)
        loft = Loft(sizes, stand=(0, 0, 1, 2, GONE))
        loft.write("a", [("swap", 0, 1), ("over", 1, 1, 2)])
        for one, other in zip("abcdefghijk", "bcdefghijkl"):
            loft.write(other, [("call", one, 1), ("drain", 0, 0), ("call", "a", 2)])
        flat = loft.rounds().flat("l")
        self.assertEqual(len(flat), 2 + 11 * 5)
        loft.run("l", times=10 ** 200 + 7)
        self.assertEqual(
            loft.stand(), at_times(model_round_of_drops, sizes, (0, 0, 1, 2, GONE), flat, 10 ** 200 + 7))
        self.assertEqual(read_page(page(loft)).rounds().flat("l"), flat)
        for name in "lkjihgfedcba":
            loft.drop(name)
        self.assertEqual(loft.left(), (25, 0))
        for _ in range(13):
            loft.undo()
        self.assertEqual((loft.stand(), len(loft.rounds())), ((0, 0, 1, 2, GONE), 12))


if __name__ == "__main__":
    unittest.main()
