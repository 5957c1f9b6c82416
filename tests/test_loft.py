"""Point [19]: hidelater.loft, one thing after the other."""

import unittest

from hidelater.casks import GONE, counts_of, hidden
from hidelater.deeds import GREAT
from hidelater.errors import (
    BadDeed, BadName, BadRow, BadSizes, BadStand, BadTimes, InUse, NoCask, NoDrop, NoRound, NothingLeft, Taken, Tapped,
    TooLong, TooMany, Unlike)
from hidelater.far import FAR, behind, ring
from hidelater.loft import Loft
from hidelater.ranks import done_all
from hidelater.rounds import Book
from hidelater.tables import one_more
from helping import BAD_SIZES, RefusalTest
from making import chances, some_load, some_stand

SIZES = (5, 5, 9)
STAND = (0, 2, GONE, 0, 1, 2, 2)
SWAP = ("swap", 0, 1)
OVER = ("over", 2, 2, 0, 1)
TAP = ("tap", 2, 1)
DRAIN = ("drain", 1, 2)


def seen_of(loft):
    """All that a loft tells."""
    book = loft.rounds()
    return (
        loft.sizes(), loft.stand(), loft.counts(), loft.steps(), loft.left(), loft.drops(), loft.gone(),
        [loft.where(rank) for rank in range(loft.drops())], [loft.path(rank) for rank in range(loft.drops())],
        [loft.ranks(cask) for cask in range(len(loft.sizes()))], loft.one_more(), len(loft), str(loft), repr(loft),
        [(name, book.steps(name), book.flat(name)) for name in book.names()])


def a_loft():
    """A loft with two rounds, the second one with a tap."""
    loft = Loft(SIZES, stand=STAND)
    loft.write("ebb", [SWAP, DRAIN])
    loft.write("tide", [("call", "ebb", 2), TAP])
    return loft


class LoftTest(RefusalTest):

    def refused_for_nothing(self, kind, fields, loft, call, *given, **named):
        """Refused, and nothing is changed by it."""
        ahead = seen_of(loft)
        self.refused(kind, fields, call, *given, **named)
        self.assertEqual(seen_of(loft), ahead)


class Begun(LoftTest):

    def test_each_kind_of_stand(self):
        for sizes, stand in (
            ((1,), ()), ((1,), (0,)), ((1,), (GONE,)), ((3,), (GONE, 0, GONE)), (SIZES, STAND), ((40,) * 6, (5,) * 40),
            ((40,) * 6, (0, 1, 2, 3, 4, 5) * 10), ((1, 1), (GONE,) * 60), ((1, 2, 3, 4, 5, 6), ()),
        ):
            loft = Loft(sizes, stand=stand)
            self.assertEqual(loft.sizes(), sizes)
            self.assertEqual(loft.stand(), stand)
            self.assertEqual(loft.counts(), counts_of(sizes, stand))
            self.assertEqual((loft.steps(), loft.left()), ([], (0, 0)))
            self.assertEqual((loft.drops(), len(loft)), (len(stand), len(stand) - stand.count(GONE)))
            self.assertEqual(loft.gone(), [rank for rank in range(len(stand)) if stand[rank] == GONE])
            self.assertEqual(loft.one_more(), one_more(sizes, loft.counts(), []))
            self.assertEqual(loft.rounds().names(), [])
            self.assertEqual(repr(loft), f"Loft({len(sizes)} casks, {len(loft)} drops)")
            self.assertEqual([type(loft.sizes()), type(loft.stand()), type(loft.counts())], [tuple] * 3)

    def test_no_stand(self):
        self.assertEqual(Loft((3, 4)).stand(), ())
        self.assertTrue(Loft((3, 4)) == Loft((3, 4), stand=()))

    def test_repr(self):
        self.assertEqual(repr(Loft((1,))), "Loft(1 casks, 0 drops)")
        self.assertEqual(repr(Loft((3, 3, 3), stand=(0, 0, GONE, 1, 1, 2))), "Loft(3 casks, 5 drops)")
        self.assertEqual(repr(Loft((3, 3), stand=(GONE, 1))), "Loft(2 casks, 1 drops)")

    def test_by_name(self):
        self.assertEqual(Loft(stand=(1,), sizes=(3, 4)).counts(), (0, 1))
        with self.assertRaises(TypeError):
            Loft((3, 4), (1,))

    def test_bad_sizes_and_stands(self):
        for sizes, cask in BAD_SIZES:
            for stand in ((), (0,), (9,) * 61):
                self.refused(BadSizes, {"cask": cask}, Loft, sizes, stand=stand)
            self.refused(BadSizes, {"cask": cask}, Loft, sizes)
        for stand, rank in (((0,) * 61, -1), ((3,), 0), ((0, -2), 1), ((0,) * 6, 5), ((0, GONE, 10 ** 39), 2)):
            self.refused(BadStand, {"rank": rank}, Loft, SIZES, stand=stand)

    def test_made_apart(self):
        one, other = Loft(SIZES), Loft(SIZES)
        one.do(TAP)
        one.write("a", [])
        self.assertEqual((other.stand(), other.left(), other.rounds().names()), ((), (0, 0), []))


class Doing(LoftTest):

    def test_do(self):
        loft = Loft(SIZES, stand=STAND)
        stand = STAND
        for number, deed in enumerate((SWAP, OVER, TAP, DRAIN, ("down", 0, 0, 1, 2), ("over", 0, 0, 1))):
            self.assertIsNone(loft.do(deed))
            stand = done_all(SIZES, stand, [deed])
            self.assertEqual(loft.stand(), stand)
            self.assertEqual(loft.steps()[-1], ("do", (deed,)))
            self.assertEqual(loft.left(), (number + 1, 0))

    def test_bad_deeds(self):
        loft = a_loft()
        loft.undo()
        for deed, place in (
            ((), 0), (("call", "ebb", 1), 0), (("pour", 1, 0), 0), (("tap", 1), -1), (("tap", -1, 0), 1),
            (("drain", GREAT, 0), 1), (("tap", 1, 3), 2), (("swap", 0, 2), 2), (("over", 1, 0, 0), 3),
        ):
            self.refused_for_nothing(BadDeed, {"place": place}, loft, loft.do, deed)
            for number in range(3):
                row = [SWAP] * number + [deed, ()]
                self.refused_for_nothing(BadRow, {"step": number, "place": place}, loft, loft.all_of, row)
                self.refused_for_nothing(BadRow, {"step": number, "place": place}, loft, loft.all_of, tuple(row))

    def test_too_many(self):
        loft = Loft((40, 40), stand=(0,) * 40 + (1,) * 19)
        self.assertIsNone(loft.do(("tap", 9, 0)))
        self.refused_for_nothing(TooMany, {"most": 60}, loft, loft.do, ("tap", 2, 1))
        self.refused_for_nothing(TooMany, {"most": 60}, loft, loft.all_of, [("tap", 1, 1), ("tap", 1, 1)])
        self.refused_for_nothing(TooMany, {"most": 60}, loft, loft.all_of, [("drain", 2, 0), ("tap", 2, 0)])
        self.refused_for_nothing(
            BadRow, {"step": 1, "place": 0}, loft, loft.all_of, [("tap", 2, 1), ()])
        self.assertIsNone(loft.do(("tap", 1, 1)))
        self.assertEqual(loft.drops(), 60)
        self.refused_for_nothing(TooMany, {"most": 60}, loft, loft.do, ("tap", 1, 1))
        loft.undo()
        self.refused_for_nothing(TooMany, {"most": 60}, loft, loft.do, ("tap", 2, 1))
        self.assertEqual(loft.left(), (1, 1))

    def test_all_of(self):
        loft = Loft(SIZES, stand=STAND)
        row = [SWAP, OVER, TAP, DRAIN]
        self.assertIsNone(loft.all_of(row))
        self.assertEqual(loft.stand(), done_all(SIZES, STAND, row))
        self.assertEqual(loft.steps(), [("do", tuple(row))])
        self.assertIsNone(loft.all_of(tuple(row)))
        self.assertEqual(loft.steps(), [("do", tuple(row))] * 2)
        self.assertEqual(loft.stand(), done_all(SIZES, STAND, row + row))
        self.assertEqual(loft.left(), (2, 0))

    def test_all_of_none(self):
        loft = Loft(SIZES, stand=STAND)
        for many, row in enumerate(([], ())):
            self.assertIsNone(loft.all_of(row))
            self.assertEqual((loft.stand(), loft.left()), (STAND, (many + 1, 0)))
            self.assertEqual(loft.steps(), [("do", ())] * (many + 1))
        self.assertEqual(loft.undo(), ("do", ()))

    def test_four_hundred_deeds_and_some_more(self):
        for many in (400, 401, 410):
            loft = Loft((2, 2), stand=(0, 1, 1))
            loft.all_of([SWAP] * many)
            self.assertEqual(loft.stand(), (0, 1, 1) if many % 2 == 0 else (1, 0, 0))
            self.assertEqual(loft.steps(), [("do", (SWAP,) * many)])

    def test_rows_that_are_lengthened_behind(self):
        loft = Loft(SIZES, stand=STAND)
        row, steps = [SWAP], [SWAP, TAP]
        loft.all_of(row)
        loft.write("a", steps)
        ahead = seen_of(loft)
        row.append(())
        steps.append(())
        steps[0] = None
        self.assertEqual(seen_of(loft), ahead)
        self.assertEqual(loft.steps(), [("do", (SWAP,)), ("write", "a", (SWAP, TAP))])

    def test_what_is_handed_in_stays(self):
        loft = Loft(SIZES)
        row, steps = [SWAP, TAP], [TAP, ("call", "a", 1)]
        loft.write("a", row)
        loft.all_of(row)
        loft.write("b", steps)
        self.assertEqual((row, steps), ([SWAP, TAP], [TAP, ("call", "a", 1)]))


class Running(LoftTest):

    def test_once_and_more(self):
        for times in (0, 1, 2, 3, 7, 10 ** 40, FAR - 1):
            loft = a_loft()
            self.assertIsNone(loft.run("ebb", times=times))
            self.assertEqual(loft.stand(), behind(SIZES, STAND, [SWAP, DRAIN], times))
            self.assertEqual(loft.steps()[2:], [("run", "ebb", times)])
            self.assertEqual(loft.left(), (3, 0))
            self.assertEqual(loft.undo(), ("run", "ebb", times))
            self.assertEqual(loft.stand(), STAND)

    def test_times_left_out(self):
        loft = a_loft()
        self.assertIsNone(loft.run("tide"))
        self.assertEqual(loft.stand(), done_all(SIZES, STAND, [SWAP, DRAIN, SWAP, DRAIN, TAP]))
        self.assertEqual(loft.steps()[2:], [("run", "tide", 1)])

    def test_taps(self):
        loft = a_loft()
        for times in (2, 3, 10 ** 299, FAR - 1):
            self.refused_for_nothing(Tapped, {"step": 4}, loft, loft.run, "tide", times=times)
        self.assertIsNone(loft.run("tide", times=0))
        self.assertEqual((loft.stand(), loft.steps()[2:]), (STAND, [("run", "tide", 0)]))
        self.assertIsNone(loft.run("tide", times=1))
        self.assertEqual(loft.drops(), len(STAND) + 2)

    def test_no_round_goes_first(self):
        loft = a_loft()
        for name in ("none", "", "Ebb", "abcdefghi"):
            for times in (-1, 0, 1, FAR):
                self.refused_for_nothing(NoRound, {"name": name}, loft, loft.run, name, times=times)
            self.refused_for_nothing(NoRound, {"name": name}, loft, loft.run, name)
            self.refused_for_nothing(NoRound, {"name": name}, loft, loft.ring, name)

    def test_bad_times(self):
        loft = a_loft()
        for times in (-1, FAR, 10 ** 310 - 1, -(10 ** 309)):
            for name in ("ebb", "tide"):
                self.refused_for_nothing(BadTimes, {"word": "bad times"}, loft, loft.run, name, times=times)

    def test_too_many(self):
        loft = Loft((40, 40), stand=(GONE,) * 59)
        loft.write("a", [SWAP, ("tap", 2, 0)])
        self.refused_for_nothing(TooMany, {"most": 60}, loft, loft.run, "a")
        self.refused_for_nothing(Tapped, {"step": 1}, loft, loft.run, "a", times=2)
        self.refused_for_nothing(BadTimes, {}, loft, loft.run, "a", times=-1)
        self.assertIsNone(loft.run("a", times=0))

    def test_by_name(self):
        loft = Loft(sizes=(3, 3), stand=(0,))
        loft.do(deed=SWAP)
        loft.all_of(deeds=[SWAP, SWAP])
        loft.write(steps=[SWAP], name="a")
        loft.run(times=3, name="a")
        self.assertEqual(loft.stand(), (0,))
        self.assertEqual((loft.where(rank=0), loft.ranks(cask=0), loft.path(rank=0)), (0, [0], [0, 1, 1, 1, 0]))
        self.assertEqual((loft.ring(name="a"), loft.apart(other=loft), loft.hidden(many=0).drops()), ((0, 2), 0, 0))
        loft.drop(name="a")
        with self.assertRaises(TypeError):
            loft.run("a", 2)

    def test_a_round_written_anew(self):
        loft = Loft((4, 4), stand=(0, 0, 1))
        loft.write("a", [SWAP])
        loft.run("a", times=3)
        loft.drop("a")
        loft.write("a", [("over", 1, 1, 0)])
        loft.run("a", times=10 ** 100)
        stands = [(0, 0, 1), (0, 0, 1), (1, 1, 0), (1, 1, 0), (1, 1, 0), (0, 0, 0)]
        for rank in range(3):
            self.assertEqual(loft.path(rank), [stand[rank] for stand in stands])
        self.assertEqual(loft.one_more(), (0, 0))
        told = [("write", "a", (SWAP,)), ("run", "a", 3), ("drop", "a"), ("write", "a", (("over", 1, 1, 0),)),
                ("run", "a", 10 ** 100)]
        self.assertEqual(loft.steps(), told)
        for number in range(5, 0, -1):
            self.assertEqual(loft.stand(), stands[number])
            self.assertEqual(loft.undo(), told[number - 1])
        self.assertEqual((loft.stand(), loft.rounds().names()), (stands[0], []))
        for number in range(5):
            self.assertEqual(loft.redo(), told[number])
            self.assertEqual(loft.stand(), stands[number + 1])
        self.assertEqual(loft.rounds().flat("a"), [("over", 1, 1, 0)])
        loft.undo()
        loft.undo()
        loft.undo()
        self.assertEqual(loft.rounds().flat("a"), [SWAP])


class Rounds(LoftTest):

    def test_write_and_drop(self):
        loft = Loft(SIZES, stand=STAND)
        self.assertIsNone(loft.write("a", [SWAP]))
        self.assertIsNone(loft.write("b", (("call", "a", 2),)))
        self.assertIsNone(loft.write("c", []))
        self.assertEqual(loft.rounds().names(), ["a", "b", "c"])
        self.assertIsNone(loft.drop("b"))
        self.assertIsNone(loft.drop("a"))
        self.assertEqual(loft.rounds().names(), ["c"])
        self.assertEqual(loft.steps(), [
            ("write", "a", (SWAP,)), ("write", "b", (("call", "a", 2),)), ("write", "c", ()), ("drop", "b"),
            ("drop", "a")])
        self.assertEqual(loft.stand(), STAND)
        self.assertEqual(loft.undo(), ("drop", "a"))
        self.assertEqual(loft.rounds().names(), ["a", "c"])
        self.assertEqual(loft.undo(), ("drop", "b"))
        self.assertEqual(loft.rounds().names(), ["a", "b", "c"])
        self.assertEqual(loft.rounds().flat("b"), [SWAP, SWAP])
        self.assertEqual(loft.rounds().callers("a"), ["b"])

    def test_refused_as_of_a_book(self):
        loft = a_loft()
        loft.undo()
        loft.redo()
        for name in ("", "A", "abcdefghi", "a b"):
            self.refused_for_nothing(BadName, {}, loft, loft.write, name, [()])
        self.refused_for_nothing(Taken, {"name": "ebb"}, loft, loft.write, "ebb", [()])
        self.refused_for_nothing(BadRow, {"step": 1, "place": 0}, loft, loft.write, "a", [SWAP, ()])
        self.refused_for_nothing(BadRow, {"step": 0, "place": 2}, loft, loft.write, "a", [("call", "x", 10)])
        self.refused_for_nothing(BadRow, {"step": 0, "place": -1}, loft, loft.write, "a", [("call", "ebb")])
        self.refused_for_nothing(NoRound, {"name": "x"}, loft, loft.write, "a", [("call", "x", 1), ()])
        self.refused_for_nothing(TooLong, {"most": 200}, loft, loft.write, "a", [SWAP] * 201)
        self.refused_for_nothing(NoRound, {"name": "x"}, loft, loft.drop, "x")
        self.refused_for_nothing(InUse, {"name": "tide"}, loft, loft.drop, "ebb")
        for name in "abcdefghij":
            loft.write(name, [])
        self.refused_for_nothing(TooMany, {"most": 12}, loft, loft.write, "more", [()])
        self.refused_for_nothing(Taken, {"name": "ebb"}, loft, loft.write, "ebb", [()])
        loft.undo()
        self.assertIsNone(loft.write("more", []))

    def test_the_book_goes_its_own_way(self):
        loft = a_loft()
        ahead = seen_of(loft)
        book = loft.rounds()
        self.assertIs(type(book), Book)
        book.drop("tide")
        book.drop("ebb")
        book.write("new", [TAP])
        self.assertEqual(seen_of(loft), ahead)
        self.assertIsNot(loft.rounds(), loft.rounds())
        other = loft.rounds()
        loft.drop("tide")
        self.assertEqual(other.names(), ["ebb", "tide"])
        self.assertTrue(loft.rounds() == loft.rounds())

    def test_books_of_moments_long_gone(self):
        loft = a_loft()
        loft.rounds().drop("tide")
        loft.undo()
        loft.rounds().drop("ebb")
        loft.rounds().write("x", [])
        loft.redo()
        self.assertEqual(loft.rounds().names(), ["ebb", "tide"])
        loft.undo()
        loft.undo()
        self.assertEqual(loft.rounds().names(), [])


class BackAndForth(LoftTest):

    def test_nothing_left(self):
        loft = Loft(SIZES, stand=STAND)
        self.refused_for_nothing(NothingLeft, {"word": "nothing left"}, loft, loft.undo)
        self.refused_for_nothing(NothingLeft, {"word": "nothing left"}, loft, loft.redo)
        loft.do(SWAP)
        self.refused_for_nothing(NothingLeft, {}, loft, loft.redo)
        self.assertEqual(loft.undo(), ("do", (SWAP,)))
        self.refused_for_nothing(NothingLeft, {}, loft, loft.undo)
        self.assertEqual(loft.redo(), ("do", (SWAP,)))
        self.refused_for_nothing(NothingLeft, {}, loft, loft.redo)

    def test_until_another_one_is_done(self):
        for again in (
            lambda loft: loft.do(SWAP), lambda loft: loft.all_of([]), lambda loft: loft.run("ebb", times=0),
            lambda loft: loft.write("new", []), lambda loft: loft.drop("tide"),
        ):
            loft = a_loft()
            loft.do(TAP)
            loft.do(DRAIN)
            loft.undo()
            loft.undo()
            self.assertEqual(loft.left(), (2, 2))
            again(loft)
            self.assertEqual(loft.left(), (3, 0))
            self.refused_for_nothing(NothingLeft, {}, loft, loft.redo)
            self.assertEqual(len(loft.steps()), 3)
            loft.undo()
            self.assertEqual((loft.stand(), loft.left()), (STAND, (2, 1)))

    def test_what_is_refused_leaves_what_can_be_done_again(self):
        loft = a_loft()
        loft.do(TAP)
        loft.undo()
        for kind, call in (
            (BadDeed, lambda: loft.do(())), (BadRow, lambda: loft.all_of([()])), (NoRound, lambda: loft.run("x")),
            (Tapped, lambda: loft.run("tide", times=2)), (BadTimes, lambda: loft.run("ebb", times=-1)),
            (Taken, lambda: loft.write("ebb", [])), (InUse, lambda: loft.drop("ebb")), (NoDrop, lambda: loft.where(7)),
            (NoDrop, lambda: loft.path(7)), (NoDrop, lambda: loft.hidden(8)), (NoCask, lambda: loft.ranks(3)),
            (Unlike, lambda: loft.apart(Loft((1,)))), (Tapped, lambda: loft.ring("tide")),
        ):
            self.refused_for_nothing(kind, {}, loft, call)
        self.assertEqual(loft.left(), (2, 1))
        self.assertEqual(loft.redo(), ("do", (TAP,)))
        self.assertEqual(loft.drops(), 9)

    def test_to_both_ends(self):
        loft = a_loft()
        loft.do(SWAP)
        loft.all_of([TAP, DRAIN])
        loft.run("ebb", times=5)
        loft.run("tide")
        loft.drop("tide")
        seen = [seen_of(loft)]
        told = loft.steps()
        for number in range(len(told), 0, -1):
            self.assertEqual(loft.undo(), told[number - 1])
            self.assertEqual(loft.left(), (number - 1, len(told) - number + 1))
            self.assertEqual(loft.steps(), told[:number - 1])
            seen.append(seen_of(loft))
        self.assertEqual((loft.stand(), loft.left()), (STAND, (0, 7)))
        for number in range(len(told)):
            self.assertEqual(seen_of(loft), seen.pop())
            self.assertEqual(loft.redo(), told[number])
        self.assertEqual(seen_of(loft), seen.pop())
        self.assertEqual(seen, [])

    def test_told_lists_spoilt(self):
        loft = a_loft()
        loft.do(TAP)
        loft.do(DRAIN)
        ahead = seen_of(loft)
        for tell in (loft.steps, loft.gone, lambda: loft.ranks(2), lambda: loft.path(0)):
            told = tell()
            self.assertIs(type(told), list)
            self.assertIsNot(tell(), told)
            told.append("x")
            told[0] = "y"
            self.assertEqual(seen_of(loft), ahead)
            tell().clear()
            self.assertEqual(seen_of(loft), ahead)


class Questions(LoftTest):

    def test_where_ranks_and_gone(self):
        loft = Loft(SIZES, stand=STAND)
        self.assertEqual([loft.where(rank) for rank in range(7)], list(STAND))
        self.assertEqual([loft.ranks(cask) for cask in range(3)], [[0, 3], [4], [1, 5, 6]])
        self.assertEqual(loft.gone(), [2])
        for rank in (-1, 7, 8, 60, 10 ** 39, -(10 ** 39)):
            self.refused_for_nothing(NoDrop, {"rank": rank}, loft, loft.where, rank)
            self.refused_for_nothing(NoDrop, {"rank": rank}, loft, loft.path, rank)
        for cask in (-1, 3, 4, 10 ** 39, -(10 ** 39)):
            self.refused_for_nothing(NoCask, {"cask": cask}, loft, loft.ranks, cask)
        for deed in (("drain", 9, 0), ("drain", 1, 2)):
            loft.do(deed)
        self.assertEqual((loft.gone(), len(loft), loft.drops()), ([0, 1, 2, 3], 3, 7))
        self.assertEqual([loft.ranks(cask) for cask in range(3)], [[], [4], [5, 6]])

    def test_path(self):
        loft = Loft((3, 3), stand=(0,))
        self.assertEqual(loft.path(0), [0])
        loft.do(SWAP)
        loft.do(("tap", 2, 0))
        loft.write("a", [SWAP])
        loft.run("a", times=3)
        loft.all_of([("drain", 1, 1), SWAP])
        self.assertEqual(loft.path(0), [0, 1, 1, 1, 0, 1])
        self.assertEqual(loft.path(1), [None, None, 0, 0, 1, GONE])
        self.assertEqual(loft.path(2), [None, None, 0, 0, 1, 0])
        self.refused_for_nothing(NoDrop, {"rank": 3}, loft, loft.path, 3)
        loft.undo()
        self.assertEqual(loft.path(1), [None, None, 0, 0, 1])
        loft.undo()
        loft.undo()
        loft.undo()
        self.assertEqual(loft.path(0), [0, 1])
        self.refused_for_nothing(NoDrop, {"rank": 1}, loft, loft.path, 1)
        self.refused_for_nothing(NoDrop, {"rank": 1}, loft, loft.where, 1)

    def test_one_more(self):
        loft = Loft((3, 5), stand=(0, 0, 0, 1))
        self.assertEqual(loft.one_more(), (None, 1))
        loft.do(("drain", 9, 1))
        self.assertEqual(loft.one_more(), (None, GONE))
        loft.undo()
        loft.do(("over", 3, 0, 1))
        self.assertEqual(loft.one_more(), (None, 1))
        loft = Loft((3, 5), stand=(0, 1))
        loft.write("a", [("over", 1, 0, 1)])
        self.assertEqual(loft.one_more(), (0, 1))
        loft.run("a")
        self.assertEqual(loft.one_more(), (0, 1))
        loft.run("a")
        self.assertEqual(loft.one_more(), (1, 1))
        # By counts a tap that fills a cask brings one less where there is one more.
        loft.do(("tap", 9, 1))
        self.assertEqual(loft.one_more(), (GONE, GONE))
        self.assertIs(type(loft.one_more()), tuple)
        loft.undo()
        self.assertEqual(loft.one_more(), (1, 1))

    def test_one_more_where_a_tap_of_one_more_drop_would_be_too_many(self):
        loft = Loft((40, 40), stand=(0,) * 39 + (1,) * 20)
        loft.do(("tap", 1, 0))
        self.assertEqual(loft.drops(), 60)
        self.assertEqual(loft.one_more(), (GONE, 1))

    def test_ring(self):
        for chance in chances(131, 150):
            sizes, _, row = some_load(chance)
            stand = some_stand(chance, sizes)
            loft = Loft(sizes, stand=stand)
            loft.write("a", row)
            self.assertEqual(loft.ring("a"), ring(sizes, stand, row))
            self.assertEqual(loft.left(), (1, 0))
        loft = a_loft()
        self.refused_for_nothing(Tapped, {"step": 4}, loft, loft.ring, "tide")
        self.assertEqual(loft.ring("ebb"), ring(SIZES, STAND, [SWAP, DRAIN]))
        self.assertEqual(loft.ring("ebb")[0], 3)
        loft.run("ebb", times=10 ** 200)
        self.assertEqual(loft.ring("ebb"), (0, 2))

    def test_apart(self):
        one, other = Loft((5, 5), stand=(0, 0, 1)), Loft((5, 5), stand=(1, GONE, 1, 1))
        self.assertEqual((one.apart(other), other.apart(one), one.apart(one)), (4, 4, 0))
        self.assertEqual(one.apart(Loft((5, 5))), 3)
        one.write("a", [])
        self.assertEqual(one.apart(other), 4)
        for sizes in ((5,), (5, 5, 5), (5, 6), (6, 5)):
            self.refused_for_nothing(Unlike, {"word": "unlike"}, one, one.apart, Loft(sizes))
            self.refused_for_nothing(Unlike, {}, one, Loft(sizes).apart, one)

    def test_hidden(self):
        loft = a_loft()
        loft.do(TAP)
        loft.do(DRAIN)
        ahead = seen_of(loft)
        for many in range(loft.drops() + 1):
            other = loft.hidden(many)
            self.assertIs(type(other), Loft)
            self.assertEqual((other.sizes(), other.stand()), (SIZES, hidden(loft.stand(), many)))
            self.assertEqual((other.left(), other.steps()), ((0, 0), []))
            self.assertTrue(other.rounds() == loft.rounds())
            self.assertEqual(other.one_more(), one_more(SIZES, other.counts(), []))
            other.do(SWAP)
            other.drop("tide")
            other.write("new", [])
            self.assertEqual(seen_of(loft), ahead)
        for many in (-1, 10, 11, 10 ** 39, -(10 ** 39)):
            self.refused_for_nothing(NoDrop, {"rank": many}, loft, loft.hidden, many)
        other = loft.hidden(3)
        loft.drop("tide")
        loft.do(SWAP)
        self.assertEqual((other.rounds().names(), other.stand()), (["ebb", "tide"], hidden(ahead[1], 3)))


class Twins(LoftTest):

    def test_all_that_the_loft_has(self):
        loft = a_loft()
        loft.do(TAP)
        loft.do(DRAIN)
        loft.undo()
        twin = loft.twin()
        self.assertIs(type(twin), Loft)
        self.assertIsNot(twin, loft)
        self.assertEqual(seen_of(twin), seen_of(loft))
        self.assertTrue(twin == loft)
        self.assertEqual(twin.redo(), ("do", (DRAIN,)))
        for _ in range(4):
            twin.undo()
        self.refused_for_nothing(NothingLeft, {}, twin, twin.undo)
        self.assertEqual((twin.stand(), twin.rounds().names()), (STAND, []))
        self.assertEqual(loft.left(), (3, 1))

    def test_neither_sees_what_is_done_to_the_other(self):
        acts = (
            lambda loft: loft.do(SWAP), lambda loft: loft.all_of([TAP, TAP]), lambda loft: loft.run("ebb", times=9),
            lambda loft: loft.write("new", []), lambda loft: loft.drop("tide"), lambda loft: loft.undo(),
            lambda loft: loft.redo(),
        )
        for act in acts:
            loft = a_loft()
            loft.do(TAP)
            loft.undo()
            twin = loft.twin()
            third = twin.twin()
            ahead = seen_of(loft)
            for acting, others in ((loft, (twin, third)), (twin, (third,)), (third, ())):
                act(acting)
                self.assertNotEqual(seen_of(acting), ahead)
                for other in others:
                    self.assertEqual(seen_of(other), ahead)
            self.assertEqual(seen_of(loft), seen_of(twin))
            self.assertEqual(seen_of(loft), seen_of(third))

    def test_each_has_its_own_to_do_again(self):
        loft = a_loft()
        loft.do(TAP)
        loft.undo()
        twin = loft.twin()
        loft.do(SWAP)
        self.assertEqual((loft.left(), twin.left()), ((3, 0), (2, 1)))
        self.assertEqual(twin.redo(), ("do", (TAP,)))
        self.assertEqual(loft.undo(), ("do", (SWAP,)))
        self.assertEqual(loft.redo(), ("do", (SWAP,)))


class Equal(LoftTest):

    def test_equal(self):
        one, other = a_loft(), a_loft()
        self.assertIs(one == other, True)
        self.assertIs(one != other, False)
        self.assertIs(one == one.twin(), True)
        # What can be taken back or done again isn't looked at.
        other.do(SWAP)
        self.assertIs(one == other, False)
        self.assertIs(one != other, True)
        other.do(SWAP)
        self.assertIs(one == other, True)
        other.undo()
        other.undo()
        self.assertIs(one == other, True)
        self.assertIs(one == one.hidden(7), True)
        self.assertIs(Loft((3,)) == Loft((3,)), True)

    def test_unequal(self):
        loft = a_loft()
        others = [Loft(SIZES, stand=STAND), Loft(SIZES), loft.hidden(6), Loft((5, 5, 10), stand=STAND)]
        fewer = a_loft()
        fewer.drop("tide")
        turned = Loft(SIZES, stand=STAND)
        turned.write("tide", [SWAP])
        turned.write("ebb", [SWAP, DRAIN])
        in_order = Loft(SIZES, stand=STAND)
        in_order.write("b", [])
        in_order.write("a", [])
        back = Loft(SIZES, stand=STAND)
        back.write("a", [])
        back.write("b", [])
        self.assertIs(in_order == back, False)
        elsewhere = a_loft()
        elsewhere.do(DRAIN)
        for other in others + [fewer, turned, elsewhere]:
            for one, two in ((loft, other), (other, loft)):
                self.assertIs(one == two, False)
                self.assertIs(one != two, True)
        self.assertIs(Loft((3, 4)) == Loft((4, 3)), False)
        # The same counts, other ranks.
        self.assertIs(Loft((3, 3), stand=(0, 1)) == Loft((3, 3), stand=(1, 0)), False)
        self.assertIs(Loft((3, 3), stand=(0, GONE)) == Loft((3, 3), stand=(0,)), False)

    def test_to_nothing_else(self):
        for loft in (Loft((3,)), a_loft()):
            for other in (
                None, 0, 1, True, False, "", str(loft), (), [], {}, loft.stand(), loft.rounds(), Loft, object(),
            ):
                self.assertIs(loft == other, False)
                self.assertIs(other == loft, False)
                self.assertIs(loft != other, True)


if __name__ == "__main__":
    unittest.main()
