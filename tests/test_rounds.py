"""Point [11]: hidelater.rounds."""

import itertools
import unittest

from hidelater.amounts import poured, poured_all
from hidelater.casks import counts_of
from hidelater.deeds import GREAT
from hidelater.errors import BadName, BadRow, BadSizes, InUse, NoRound, Taken, TooLong, TooMany
from hidelater.ranks import done, done_all
from hidelater.rounds import MOST_CALLS, MOST_FLAT, MOST_ROUNDS, Book
from helping import BAD_SIZES, RefusalTest
from making import DRY_WORDS, chances, some_counts, some_deed, some_row, some_sizes, some_stand

SIZES = (5, 40, 5, 17)
SWAP = ("swap", 0, 2)
TAP = ("tap", 3, 1)

GOOD_NAMES = ("a", "z", "az", "rain", "abcdefg", "abcdefgh", "zzzzzzzz")
BAD_NAMES = ("", "abcdefghi", "a" * 40, "A", "rAin", "rain1", "1", "a b", " a", "a ", "a-b", "a_b", "~", "a.", "`", "{")

# Each pair: no step for SIZES, and the place with which it is refused.
BAD_STEPS = (
    ((), 0),
    (("pour", 1, 0), 0),
    (("Call", 1, 2), 0),
    (("over", 1, 0), -1),
    (("tap", GREAT, 0), 1),
    (("drain", 1, 4), 2),
    (("swap", 0, 1), 2),
    (("over", 1, 0, 1, 0), 4),
    (("call",), -1),
    (("call", "a"), -1),
    (("call", "none"), -1),
    (("call", "a", 1, 1), -1),
    (("call", "none", -1, 10, 3), -1),
    (("call", "a", -1), 2),
    (("call", "a", 10), 2),
    (("call", "a", 10 ** 39), 2),
    (("call", "none", 10), 2),
    (("call", "", -1), 2),
)


def seen_of(book):
    """All that a Book tells."""
    names = book.names()
    told = [(name, book.steps(name), book.flat(name), book.callers(name)) for name in names]
    return book.sizes(), names, told, len(book), repr(book)


class Bounds(unittest.TestCase):

    def test_bounds(self):
        self.assertEqual((MOST_ROUNDS, MOST_FLAT, MOST_CALLS), (12, 200, 9))


class Making(RefusalTest):

    def test_a_new_book(self):
        for sizes in ((1,), (40,), SIZES, (1, 2, 3, 4, 5, 6)):
            book = Book(sizes)
            self.assertEqual(seen_of(book), (sizes, [], [], 0, "Book(0 rounds)"))
            self.assertIs(type(book.sizes()), tuple)

    def test_bad_sizes(self):
        for sizes, cask in BAD_SIZES:
            self.refused(BadSizes, {"cask": cask}, Book, sizes)

    def test_books_made_apart(self):
        one, other = Book(SIZES), Book(SIZES)
        one.write("a", [SWAP])
        self.assertEqual((one.names(), other.names()), (["a"], []))
        other.write("a", [TAP])
        self.assertEqual((one.steps("a"), other.steps("a")), ([SWAP], [TAP]))


class Writing(RefusalTest):

    def test_deeds_and_calls(self):
        book = Book(SIZES)
        self.assertIsNone(book.write("ebb", [SWAP, TAP]))
        self.assertIsNone(book.write("flow", (("call", "ebb", 2), ("drain", 1, 0), ("call", "ebb", 0))))
        self.assertIsNone(book.write("tide", [("call", "flow", 1), SWAP, ("call", "ebb", 1)]))
        self.assertIsNone(book.write("calm", []))
        flow = [SWAP, TAP, SWAP, TAP, ("drain", 1, 0)]
        self.assertEqual(book.names(), ["ebb", "flow", "tide", "calm"])
        self.assertEqual(book.steps("ebb"), [SWAP, TAP])
        self.assertEqual(book.flat("ebb"), [SWAP, TAP])
        self.assertEqual(book.steps("flow"), [("call", "ebb", 2), ("drain", 1, 0), ("call", "ebb", 0)])
        self.assertEqual(book.flat("flow"), flow)
        self.assertEqual(book.steps("tide"), [("call", "flow", 1), SWAP, ("call", "ebb", 1)])
        self.assertEqual(book.flat("tide"), flow + [SWAP, SWAP, TAP])
        self.assertEqual((book.steps("calm"), book.flat("calm")), ([], []))
        self.assertEqual(book.callers("ebb"), ["flow", "tide"])
        self.assertEqual(book.callers("flow"), ["tide"])
        self.assertEqual(book.callers("tide"), [])
        self.assertEqual((len(book), repr(book)), (4, "Book(4 rounds)"))

    def test_a_caller_is_told_once_and_only_for_its_own_calls(self):
        book = Book(SIZES)
        book.write("c", [SWAP])
        book.write("b", [("call", "c", 1), ("call", "c", 2)])
        book.write("a", [("call", "b", 1)])
        book.write("d", [SWAP, ("call", "c", 0)])
        self.assertEqual(book.callers("c"), ["b", "d"])
        self.assertEqual(book.callers("b"), ["a"])

    def test_each_count_of_calls(self):
        book = Book(SIZES)
        book.write("a", [SWAP, TAP])
        for times in range(10):
            book.write("b", [TAP, ("call", "a", times), SWAP])
            self.assertEqual(book.flat("b"), [TAP] + [SWAP, TAP] * times + [SWAP])
            book.drop("b")

    def test_names(self):
        for name in GOOD_NAMES:
            book = Book(SIZES)
            book.write(name, [TAP])
            self.assertEqual((book.names(), book.flat(name)), ([name], [TAP]))
        for name in BAD_NAMES:
            book = Book(SIZES)
            self.refused(BadName, {"word": "bad name"}, book.write, name, [TAP])
            self.assertEqual(book.names(), [])

    def test_each_sign_of_a_name(self):
        for sign in [chr(code) for code in range(32, 127)]:
            for name in (sign, sign + "ab", "abcdefg" + sign):
                book = Book(SIZES)
                if sign in "abcdefghijklmnopqrstuvwxyz":
                    self.assertIsNone(book.write(name, []))
                else:
                    self.refused(BadName, {}, book.write, name, [])

    def test_lists_that_are_changed_behind(self):
        book = Book(SIZES)
        steps = [SWAP, TAP]
        book.write("a", steps)
        steps.append(SWAP)
        steps[0] = ("pour",)
        book.write("b", [("call", "a", 2)])
        ahead = seen_of(book)
        self.assertEqual(ahead[2][0][1:3], ([SWAP, TAP], [SWAP, TAP]))
        for tell in (book.names, lambda: book.steps("a"), lambda: book.flat("a"), lambda: book.callers("a")):
            told = tell()
            self.assertIs(type(told), list)
            self.assertIsNot(tell(), told)
            told.append("x")
            told[0] = "y"
            self.assertEqual(seen_of(book), ahead)
        book.flat("b").clear()
        book.steps("b").clear()
        self.assertEqual(seen_of(book), ahead)

    def test_what_is_handed_in_stays(self):
        book = Book(SIZES)
        book.write("a", [SWAP])
        for steps in ([("call", "a", 3), ()], [("call", "b", 3)], [SWAP] * 201, [("call", "a", 3), TAP]):
            handed = list(steps)
            try:
                book.write("b", steps)
            except (BadRow, NoRound, TooLong):
                pass
            self.assertEqual(steps, handed)

    def test_twelve_rounds_and_a_thirteenth(self):
        book = Book(SIZES)
        names = ["r" + letter for letter in "lkjihgfedcba"]
        for many, name in enumerate(names):
            self.assertEqual((len(book), repr(book)), (many, f"Book({many} rounds)"))
            book.write(name, [TAP])
        ahead = seen_of(book)
        self.assertEqual((ahead[1], len(book), repr(book)), (names, 12, "Book(12 rounds)"))
        for steps in ([], [TAP], [()], [("call", "none", 1)], [TAP] * 201):
            self.refused(TooMany, {"most": 12}, book.write, "more", steps)
            self.refused(Taken, {"name": "ra"}, book.write, "ra", steps)
            self.refused(BadName, {}, book.write, "Ra", steps)
            self.assertEqual(seen_of(book), ahead)
        book.drop("rh")
        book.write("more", [])
        self.assertEqual(book.names(), [name for name in names if name != "rh"] + ["more"])
        self.refused(TooMany, {"most": 12}, book.write, "rh", [])

    def test_by_name(self):
        book = Book(sizes=SIZES)
        book.write(steps=[SWAP], name="a")
        book.write(steps=[("call", "a", 1)], name="b")
        self.assertEqual((book.steps(name="a"), book.flat(name="b"), book.callers(name="a")), ([SWAP], [SWAP], ["b"]))
        self.assertIsNone(book.drop(name="b"))


class BadRows(RefusalTest):

    def book(self):
        book = Book(SIZES)
        book.write("a", [SWAP, TAP])
        book.write("b", [("call", "a", 2)])
        return book

    def test_a_bad_step_at_any_place(self):
        book = self.book()
        ahead = seen_of(book)
        good = [SWAP, ("call", "a", 9), ("call", "b", 0)]
        for (step, place), number in itertools.product(BAD_STEPS, range(4)):
            row = good[:number] + [step] + good[number:]
            for steps in (row, tuple(row), row + [("call", "none", 1), ()], row + [TAP] * 300):
                self.refused(BadRow, {"step": number, "place": place}, book.write, "c", steps)
            self.assertEqual(seen_of(book), ahead)

    def test_a_round_that_there_is_not(self):
        book = self.book()
        ahead = seen_of(book)
        for name in ("none", "c", "", "A", "ab", "a ", "abcdefghi"):
            for times in (0, 1, 9):
                for number in range(3):
                    steps = [SWAP] * number + [("call", name, times)]
                    for row in (steps, tuple(steps), steps + [(), TAP], steps + [SWAP] * 300):
                        self.refused(NoRound, {"name": name}, book.write, "c", row)
        self.assertEqual(seen_of(book), ahead)

    def test_the_first_such_step_is_told(self):
        book = self.book()
        row = [SWAP, ("call", "x", 1), ("call", "y", 1), ("tap", -1, 0), ("call", "a", 10)]
        self.refused(NoRound, {"name": "x"}, book.write, "c", row)
        self.refused(NoRound, {"name": "y"}, book.write, "c", row[2:])
        self.refused(BadRow, {"step": 0, "place": 1}, book.write, "c", row[3:])
        self.refused(BadRow, {"step": 0, "place": 2}, book.write, "c", row[::-1])
        self.refused(BadRow, {"step": 1, "place": 2}, book.write, "c", [SWAP] + row[::-1])

    def test_a_round_does_not_call_itself_or_a_later_one(self):
        book = self.book()
        self.refused(NoRound, {"name": "c"}, book.write, "c", [("call", "c", 1)])
        self.refused(NoRound, {"name": "c"}, book.write, "d", [("call", "c", 0)])
        self.assertEqual(book.names(), ["a", "b"])

    def test_a_row_goes_behind_a_name_that_is_bad_or_taken(self):
        book = self.book()
        for steps in ([()], [("call", "none", 1)], [("call", "a")], [SWAP] * 201, []):
            for name in BAD_NAMES:
                self.refused(BadName, {}, book.write, name, steps)
            for name in ("a", "b"):
                self.refused(Taken, {"name": name}, book.write, name, steps)

    def test_a_round_of_other_casks(self):
        self.refused(BadRow, {"step": 0, "place": 2}, Book((3, 4)).write, "a", [("swap", 0, 1)])
        self.refused(BadRow, {"step": 1, "place": 2}, Book((3,)).write, "a", [("tap", 1, 0), ("tap", 1, 1)])


class Lengths(RefusalTest):

    def test_two_hundred_deeds_and_one_more(self):
        book = Book(SIZES)
        book.write("all", [TAP] * 200)
        for many in (201, 202, 400, 410):
            self.refused(TooLong, {"most": 200}, book.write, "b", [TAP] * many)
        self.assertEqual((book.names(), len(book.flat("all"))), (["all"], 200))
        book.write("none", [("call", "all", 0)] * 300)
        self.assertEqual((book.flat("none"), len(book.steps("none"))), ([], 300))
        book.write("once", [("call", "all", 1), ("call", "none", 9)])
        self.refused(TooLong, {"most": 200}, book.write, "c", [("call", "all", 1), TAP])
        self.refused(TooLong, {"most": 200}, book.write, "c", [TAP, ("call", "once", 1)])
        self.refused(TooLong, {"most": 200}, book.write, "c", [("call", "all", 2)])
        self.refused(TooLong, {"most": 200}, book.write, "c", [("call", "all", 9)] * 400)
        self.assertEqual(book.names(), ["all", "none", "once"])

    def test_by_calls_of_calls(self):
        book = Book(SIZES)
        book.write("five", [SWAP] * 5)
        book.write("forty", [("call", "five", 8)])
        ahead = book.names()
        self.refused(TooLong, {"most": 200}, book.write, "a", [("call", "forty", 5), SWAP])
        self.refused(TooLong, {"most": 200}, book.write, "a", [("call", "forty", 4), ("call", "five", 9)])
        self.assertEqual(book.names(), ahead)
        book.write("a", [("call", "forty", 4), ("call", "five", 7), TAP, TAP, TAP, TAP, TAP])
        self.assertEqual(book.flat("a"), [SWAP] * 195 + [TAP] * 5)
        book.write("b", [("call", "forty", 5)])
        self.assertEqual(book.flat("b"), [SWAP] * 200)

    def test_a_bad_row_goes_ahead_of_too_long(self):
        book = Book(SIZES)
        self.refused(BadRow, {"step": 250, "place": 0}, book.write, "a", [TAP] * 250 + [()])
        self.refused(NoRound, {"name": "b"}, book.write, "a", [TAP] * 250 + [("call", "b", 0)])
        self.assertEqual(book.names(), [])


class Dropping(RefusalTest):

    def test_drop(self):
        book = Book(SIZES)
        book.write("a", [SWAP])
        book.write("b", [TAP])
        self.assertIsNone(book.drop("a"))
        self.assertEqual((book.names(), len(book)), (["b"], 1))
        for call in (book.drop, book.steps, book.flat, book.callers):
            self.refused(NoRound, {"name": "a"}, call, "a")
        self.refused(NoRound, {"name": "a"}, book.write, "c", [("call", "a", 1)])

    def test_no_such_round(self):
        book = Book(SIZES)
        book.write("a", [SWAP])
        ahead = seen_of(book)
        for name in ("b", "", "aa", "A", "abcdefghi", "a b", " "):
            for call in (book.drop, book.steps, book.flat, book.callers):
                self.refused(NoRound, {"name": name}, call, name)
        self.assertEqual(seen_of(book), ahead)

    def test_the_first_caller_is_told(self):
        book = Book(SIZES)
        book.write("d", [SWAP])
        book.write("c", [SWAP, ("call", "d", 0)])
        book.write("b", [("call", "d", 3)])
        book.write("a", [("call", "c", 1)])
        ahead = seen_of(book)
        self.refused(InUse, {"name": "c"}, book.drop, "d")
        self.refused(InUse, {"name": "a"}, book.drop, "c")
        self.assertEqual(seen_of(book), ahead)
        book.drop("a")
        book.drop("c")
        self.refused(InUse, {"name": "b"}, book.drop, "d")
        book.write("c", [("call", "d", 1)])
        self.refused(InUse, {"name": "b"}, book.drop, "d")
        book.drop("b")
        self.refused(InUse, {"name": "c"}, book.drop, "d")
        book.drop("c")
        self.assertIsNone(book.drop("d"))
        self.assertEqual(book.names(), [])

    def test_writing_anew_what_was_let_go(self):
        book = Book(SIZES)
        for name in ("a", "b", "c"):
            book.write(name, [SWAP])
        book.drop("a")
        book.write("a", [TAP, ("call", "b", 2)])
        self.assertEqual(book.names(), ["b", "c", "a"])
        self.assertEqual(book.flat("a"), [TAP, SWAP, SWAP])
        self.assertEqual(book.callers("b"), ["a"])


class Twins(unittest.TestCase):

    def book(self, sizes=SIZES, names="abc"):
        book = Book(sizes)
        for name in names:
            book.write(name, [TAP])
        return book

    def test_a_twin_goes_its_own_way(self):
        book = self.book()
        book.write("d", [("call", "a", 2)])
        twin = book.twin()
        self.assertIs(type(twin), Book)
        self.assertIsNot(twin, book)
        self.assertTrue(twin == book)
        self.assertEqual(seen_of(twin), seen_of(book))
        ahead = seen_of(book)
        twin.drop("b")
        twin.write("e", [("call", "d", 1)])
        self.assertEqual(seen_of(book), ahead)
        self.assertTrue(twin != book)
        behind = seen_of(twin)
        book.drop("d")
        book.drop("a")
        book.write("a", [SWAP])
        self.assertEqual(seen_of(twin), behind)
        self.assertEqual(twin.flat("e"), [TAP, TAP])

    def test_a_twin_of_none(self):
        book = Book((3,))
        twin = book.twin()
        self.assertEqual(twin.sizes(), (3,))
        twin.write("a", [])
        self.assertEqual((len(book), len(twin)), (0, 1))

    def test_equal(self):
        for one, other in (
            (Book((1, 2)), Book((1, 2))),
            (self.book(), self.book()),
            (self.book().twin(), self.book()),
        ):
            self.assertIs(one == other, True)
            self.assertIs(one != other, False)
        once = self.book(names="ab")
        again = self.book(names="xab")
        again.drop("x")
        self.assertIs(once == again, True)
        again.drop("a")
        again.write("a", [TAP])
        self.assertIs(once == again, False)

    def test_unequal(self):
        book = self.book()
        laid_out = self.book(names="ab")
        laid_out.write("c", [("call", "a", 1)])
        self.assertEqual(laid_out.flat("c"), book.flat("c"))
        other_step = self.book(names="ab")
        other_step.write("c", [("tap", 4, 1)])
        for other in (
            Book(SIZES), self.book(names="ab"), self.book(names="acb"), self.book(names="abd"), self.book(names="abcd"),
            self.book((5, 40, 5)), self.book((5, 40, 5, 18)), laid_out, other_step,
        ):
            for one, two in ((book, other), (other, book)):
                self.assertIs(one == two, False)
                self.assertIs(one != two, True)
        self.assertIs(Book((1, 2)) == Book((2, 1)), False)

    def test_to_nothing_else(self):
        for book in (Book(SIZES), self.book()):
            for other in (None, 0, 1, True, False, "Book(0 rounds)", SIZES, book.names(), {}, [], (), object(), Book):
                self.assertIs(book == other, False)
                self.assertIs(other == book, False)
                self.assertIs(book != other, True)


class Model:
    """A Book told once more: a plain list of names and steps, asked anew each time."""

    def __init__(self):
        self.rows = []

    def find(self, name):
        found = [steps for other, steps in self.rows if other == name]
        return found[0] if found else None

    def flat(self, steps):
        deeds = []
        for step in steps:
            if step[0] == "call":
                for _ in range(step[2]):
                    deeds += self.flat(self.find(step[1]))
            else:
                deeds.append(step)
        return deeds

    def callers(self, name):
        return [user for user, steps in self.rows if any(step[:2] == ("call", name) for step in steps)]

    def refusal(self, name, steps, faults):
        """The refusal due, a pair; faults has the place of each bad step but calls of no round, by number."""
        if not 1 <= len(name) <= 8 or set(name) - set("abcdefghijklmnopqrstuvwxyz"):
            return BadName, {}
        if self.find(name) is not None:
            return Taken, {"name": name}
        if len(self.rows) == 12:
            return TooMany, {"most": 12}
        for number, step in enumerate(steps):
            if number in faults:
                return BadRow, {"step": number, "place": faults[number]}
            if step[0] == "call" and self.find(step[1]) is None:
                return NoRound, {"name": step[1]}
        if len(self.flat(steps)) > 200:
            return TooLong, {"most": 200}
        return None


class LongRuns(RefusalTest):
    """Books through many writings and lettings go, good and bad ones, against a Model."""

    def some_steps(self, chance, model, sizes):
        """Steps and the places of those that are none, by number."""
        steps, faults = [], {}
        for number in range(chance.randint(0, 6)):
            kind = chance.random()
            if kind < 0.05:
                bad = chance.choice((((), 0), (("tap", -1, 0), 1), (("call", "a"), -1), (("call", "no", 10), 2)))
                steps.append(bad[0])
                faults[number] = bad[1]
            elif kind < 0.5 and model.rows:
                name = chance.choice([row[0] for row in model.rows] * 4 + ["none"])
                steps.append(("call", name, chance.choice((0, 1, 2, 3, 9))))
            else:
                steps.append(some_deed(chance, sizes))
        return steps, faults

    def look(self, book, model):
        self.assertEqual(book.names(), [name for name, _ in model.rows])
        self.assertEqual((len(book), repr(book)), (len(model.rows), f"Book({len(model.rows)} rounds)"))
        for name, steps in model.rows:
            self.assertEqual(book.steps(name), steps)
            self.assertEqual(book.flat(name), model.flat(steps))
            self.assertEqual(book.callers(name), model.callers(name))

    def test_long_runs(self):
        seen = {}
        for chance in chances(41, 60):
            sizes = some_sizes(chance)
            book, model = Book(sizes), Model()
            letters = chance.choice(("abcde", "abcdefghijklmnopq"))
            for _ in range(60):
                name = chance.choice(letters) * chance.choice((1, 1, 1, 1, 8, 9))
                if chance.random() < 0.2:
                    seen[self.let_go(book, model, name)] = True
                else:
                    steps, faults = self.some_steps(chance, model, sizes)
                    seen[self.write(book, model, name, steps, faults)] = True
                self.look(book, model)
        due = {BadName, Taken, TooMany, BadRow, NoRound, TooLong, InUse, "written", "let go"}
        self.assertEqual(set(seen), due)

    def write(self, book, model, name, steps, faults):
        due = model.refusal(name, steps, faults)
        if due is not None:
            self.refused(due[0], due[1], book.write, name, steps)
            return due[0]
        self.assertIsNone(book.write(name, steps))
        model.rows.append((name, steps))
        return "written"

    def let_go(self, book, model, name):
        if model.find(name) is None:
            self.refused(NoRound, {"name": name}, book.drop, name)
            return NoRound
        if model.callers(name):
            self.refused(InUse, {"name": model.callers(name)[0]}, book.drop, name)
            return InUse
        self.assertIsNone(book.drop(name))
        model.rows = [row for row in model.rows if row[0] != name]
        return "let go"


class StepByStep(unittest.TestCase):
    """What is laid out does what the steps do, one by one."""

    def through(self, book, name, start, do):
        for step in book.steps(name):
            if step[0] == "call":
                for _ in range(step[2]):
                    start = self.through(book, step[1], start, do)
            else:
                start = do(book.sizes(), start, step)
        return start

    def test_flat_against_the_steps(self):
        for chance in chances(42, 300):
            sizes = some_sizes(chance)
            book = Book(sizes)
            book.write("a", some_row(chance, sizes, DRY_WORDS, 4))
            book.write("b", some_row(chance, sizes, DRY_WORDS, 3) + [("call", "a", chance.randint(0, 4))])
            row = [("call", chance.choice("ab"), chance.randint(0, 3)) for _ in range(3)]
            book.write("c", row[:1] + some_row(chance, sizes, DRY_WORDS, 4) + row[1:])
            stand, counts = some_stand(chance, sizes), some_counts(chance, sizes)
            for name in "abc":
                flat = book.flat(name)
                behind = done_all(sizes, stand, flat)
                self.assertEqual(behind, self.through(book, name, stand, done))
                self.assertEqual(poured_all(sizes, counts, flat), self.through(book, name, counts, poured))
                self.assertEqual(counts_of(sizes, behind), poured_all(sizes, counts_of(sizes, stand), flat))

    def test_taps_too(self):
        for chance in chances(43, 100):
            sizes = some_sizes(chance)
            book = Book(sizes)
            book.write("a", some_row(chance, sizes, most=4))
            book.write("b", [("call", "a", 3), ("tap", 1, 0), ("call", "a", 2)])
            counts = some_counts(chance, sizes)
            told = poured_all(sizes, counts, book.flat("b"))
            self.assertEqual(told, self.through(book, "b", counts, poured))


if __name__ == "__main__":
    unittest.main()
