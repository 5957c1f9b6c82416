"""Point [18]: hidelater.pages."""

import re
import unittest

from hidelater.casks import GONE
from hidelater.errors import BadText, HideError, Missing
from hidelater.loft import Loft
from hidelater.pages import page, read_page
from helping import RefusalTest
from making import chances, some_deed, some_row, some_sizes, some_stand
from test_texts import NUMBER, STEP

# Names that are words of a page or of a deed, too.
NAMES = ("end", "round", "casks", "drops", "over", "down", "swap", "tap", "drain", "call", "a", "abcdefgh")

PLAIN = "casks 3 5\ndrops 0 1 - 1\nround ebb\ndrain 1 1\nover 2 0 1\nend\nround flow\ncall ebb 2\nend\n"


def built(sizes, stand, rounds):
    """A loft with a stand and rounds."""
    loft = Loft(sizes, stand=stand)
    for name, steps in rounds:
        loft.write(name, steps)
    return loft


def told_page(sizes, stand, rounds):
    """The page, written once more."""
    text = "casks"
    for size in sizes:
        text += " " + str(size)
    text += "\ndrops"
    for place in stand:
        text += " -" if place == GONE else " " + str(place)
    text += "\n"
    for name, steps in rounds:
        text += f"round {name}\n"
        for step in steps:
            text += " ".join(str(thing) for thing in step) + "\n"
        text += "end\n"
    return text


def things(row):
    """The tuple of what stands behind the word of a row: numbers, names, -1 for a dash."""
    return tuple([int(part) if part.isdigit() else GONE if part == "-" else part for part in row.split(" ")[1:]])


class Writable:
    """Whether what stands so far can be written in a loft, asked of a new Loft each time."""

    def __init__(self):
        self.sizes, self.stand, self.rounds = None, (), []

    def can(self):
        try:
            built(self.sizes, self.stand, self.rounds)
        except (HideError, Missing):
            return False
        return True


def model_row(text):
    """The number of the row with which a page is refused, or None."""
    rows = text.splitlines(keepends=True)
    so_far, inside = Writable(), False
    for at, row in enumerate(rows):
        if row[-1] != "\n":
            return at
        row = row[:-1]
        if at == 0:
            good = re.fullmatch(f"casks( {NUMBER})*", row) is not None
            so_far.sizes = things(row) if good else None
        elif at == 1:
            good = re.fullmatch(f"drops( ({NUMBER}|-))*", row) is not None
            so_far.stand = things(row) if good else None
        elif inside and row == "end":
            inside, good = False, True
        elif inside:
            good = STEP.fullmatch(row) is not None
            if good:
                so_far.rounds[-1][1].append((row.split(" ")[0],) + things(row))
        else:
            inside, good = True, row.startswith("round ")
            so_far.rounds.append((row[6:], []))
        if not good or not so_far.can():
            return at
    return len(rows) if inside or len(rows) < 2 else None


def some_rounds(chance, sizes):
    """A list of up to twelve rounds with their names; some call others."""
    rounds, flat = [], {}
    for name in chance.sample(NAMES, chance.choice((0, 1, 2, 4, 12))):
        steps = some_row(chance, sizes, most=4)
        many = len(steps)
        for other in chance.sample(sorted(flat), min(len(flat), chance.randint(0, 2))):
            times = chance.choice((0, 1, 2, 9))
            if many + flat[other] * times <= 200:
                steps.insert(chance.randint(0, len(steps)), ("call", other, times))
                many += flat[other] * times
        rounds.append((name, steps))
        flat[name] = many
    return rounds


class ThereAndBack(unittest.TestCase):

    def test_told_ones(self):
        for sizes, stand, rounds, text in (
            ((1,), (), [], "casks 1\ndrops\n"),
            ((40, 1, 40, 7, 8, 9), (), [], "casks 40 1 40 7 8 9\ndrops\n"),
            ((3, 5), (0, 1, GONE, 1), [], "casks 3 5\ndrops 0 1 - 1\n"),
            ((3,), (GONE,) * 60, [], "casks 3\ndrops" + " -" * 60 + "\n"),
            ((3,), (), [("a", [])], "casks 3\ndrops\nround a\nend\n"),
            ((3, 5), (0, 1, GONE, 1),
             [("ebb", [("drain", 1, 1), ("over", 2, 0, 1)]), ("flow", [("call", "ebb", 2)])], PLAIN),
            ((3,), (0,), [("end", []), ("round", [("call", "end", 0)])],
             "casks 3\ndrops 0\nround end\nend\nround round\ncall end 0\nend\n"),
        ):
            with self.subTest(text=text):
                loft = built(sizes, stand, rounds)
                self.assertEqual(page(loft), text)
                self.assertEqual(str(loft), text)
                self.assertIs(type(page(loft)), str)
                self.look_read(text, sizes, stand, rounds)

    def look_read(self, text, sizes, stand, rounds):
        loft = read_page(text)
        self.assertIs(type(loft), Loft)
        self.assertEqual((loft.sizes(), loft.stand(), loft.left(), loft.steps()), (sizes, stand, (0, 0), []))
        book = loft.rounds()
        self.assertEqual([(name, book.steps(name)) for name in book.names()], rounds)
        self.assertTrue(loft == built(sizes, stand, rounds))
        self.assertEqual(page(loft), text)
        return loft

    def test_any_lofts(self):
        seen = set()
        for chance in chances(121, 300):
            sizes = some_sizes(chance)
            stand, rounds = some_stand(chance, sizes), some_rounds(chance, sizes)
            loft = built(sizes, stand, rounds)
            text = told_page(sizes, stand, rounds)
            kept = loft.left()
            self.assertEqual(page(loft), text)
            self.assertEqual(loft.left(), kept)
            other = self.look_read(text, sizes, stand, rounds)
            self.assertEqual(other.one_more(), loft.one_more())
            seen.add((len(sizes), len(rounds)))
        for casks in range(1, 7):
            self.assertTrue({(casks, 0), (casks, 12)} <= seen)

    def test_as_it_stands_now(self):
        loft = Loft((3, 3), stand=(0, 0))
        loft.do(("over", 1, 0, 1))
        loft.write("a", [("tap", 1, 0)])
        loft.run("a")
        text = "casks 3 3\ndrops 1 0 0\nround a\ntap 1 0\nend\n"
        self.assertEqual(page(loft), text)
        loft.undo()
        self.assertEqual(page(loft), text.replace(" 1 0 0\n", " 1 0\n"))
        loft.undo()
        self.assertEqual(page(loft), "casks 3 3\ndrops 1 0\n")
        loft.undo()
        self.assertEqual(page(loft), "casks 3 3\ndrops 0 0\n")
        loft.redo()
        loft.redo()
        loft.redo()
        self.assertEqual(page(loft), text)
        loft.do(("drain", 1, 1))
        self.assertEqual(page(loft), text.replace("drops 1", "drops -"))

    def test_in_the_order_in_which_they_were_written(self):
        loft = built((3,), (), [("b", []), ("a", []), ("c", [])])
        loft.drop("b")
        loft.write("b", [("tap", 1, 0)])
        self.assertEqual(page(loft), "casks 3\ndrops\nround a\nend\nround c\nend\nround b\ntap 1 0\nend\n")

    def test_what_was_read_goes_on_as_a_loft(self):
        loft = read_page(PLAIN)
        loft.run("flow")
        self.assertEqual(loft.stand(), (GONE, GONE, GONE, 1))
        self.assertEqual(loft.left(), (1, 0))
        self.assertEqual(loft.steps(), [("run", "flow", 1)])
        loft.drop("flow")
        loft.undo()
        loft.undo()
        self.assertEqual(page(loft), PLAIN)
        self.assertEqual(page(read_page(PLAIN)), PLAIN)

    def test_by_name(self):
        self.assertEqual(page(loft=read_page(text=PLAIN)), PLAIN)

    def test_long_pages(self):
        steps = [("over", 10 ** 29, 0, 1, 2, 3, 4, 5)] * 200
        loft = built((40,) * 6, (5,) * 40 + (0,) * 20, [("a", steps), ("b", [("call", "a", 1)])])
        self.assertTrue(read_page(page(loft)) == loft)
        text = "casks 40\ndrops\nround a\n" + "tap 0 0\n" * 200 + "end\nround b\n" + "call a 0\n" * 300 + "end\n"
        self.assertEqual(page(read_page(text)), text)


class OtherTexts(RefusalTest):

    def bad(self, row, text):
        self.refused(BadText, {"row": row, "word": "bad text"}, read_page, text)
        self.assertEqual(model_row(text), row, text)

    def test_no_rows_and_too_few(self):
        self.bad(0, "")
        self.bad(0, "casks 3")
        self.bad(0, "\n")
        self.bad(0, "\n\n")
        self.bad(1, "casks 3\n")
        self.bad(1, "casks 3\ndrops")
        self.bad(1, "casks 3\n\n")
        self.bad(2, "casks 3\ndrops\nround a")
        self.bad(3, "casks 3\ndrops\nround a\n")
        self.bad(3, "casks 3\ndrops\nround a\nend")
        self.bad(3, "casks 3\ndrops\nround a\ntap 1 0")
        self.bad(4, "casks 3\ndrops\nround a\ntap 1 0\n")
        self.bad(5, "casks 3\ndrops\nround a\nend\nround b\n")

    def test_rows_behind(self):
        for more in (
            "\n", " ", "x", "end\n", "end", "tap 1 0\n", "drops\n", "casks 3\n", "\n\n", "round", "round\n", "round \n",
            "round  a\n", " round a\n", "round a \n", "round A\n", "round abcdefghi\n", "Round a\n",
        ):
            self.bad(2, "casks 3\ndrops\n" + more)
            self.bad(9, PLAIN + more)

    def test_casks(self):
        for row in (
            "casks", "casks ", "casks  3", " casks 3", "casks 3 ", "casks 0", "casks 41", "casks 3 0", "casks -1",
            "casks 03", "casks 3 3 3 3 3 3 3", "casks a", "cask 3", "Casks 3", "casks 3,3", "casks -", "3", "casks +3",
            "casks " + "9" * 30, "casks " + "9" * 31, "casks 1" + "0" * 30, "drops", "casks3",
        ):
            self.bad(0, row + "\ndrops\n")
            self.bad(0, row + "\nnonsense\n")

    def test_drops(self):
        for row in ("drops ", "drops  0", " drops", "drop 0", "drops 0 ", "drops 2", "drops 00", "drops -1", "drops --",
                    "drops 0 0 0 0", "drops 1 0 0 0 - 0", "drops" + " -" * 61, "drops _", "casks 3 3", "drops +0",
                    "drops " + "0" * 31, "Drops", "drops,", "drops0", "drops a", "drops 0  0", "drops 1" + "0" * 30):
            self.bad(1, f"casks 3 3\n{row}\n")
            self.bad(1, f"casks 3 3\n{row}\nnonsense\n")

    def test_steps(self):
        rows = (
            "", " ", "tap 1", "tap 1 0 0", "tap 01 0", "tap -1 0", "tap 1 2", "tap 0 -1", "swap 0 0", "swap 0 2",
            "swap 0 1 ", " swap 0 1", "over 1 0", "over 1 0 0", "over 1 0 1 0", "over 1 0 1 2", "drain 1  0",
            "Drain 1 0", "drain 1" + "0" * 30 + " 0", "call a 1", "call none 0", "call b 10", "call b -1", "call b",
            "call b 1 1",
            "call B 1", "call b 01", "pour 1 0 1", "End", "end ", " end", "round c", "casks 3 3", "drops", "-")
        for row in rows:
            self.bad(5, f"casks 3 3\ndrops\nround b\nend\nround a\n{row}\nend\n")
            self.bad(6, f"casks 3 3\ndrops\nround b\nend\nround a\ntap 1 0\n{row}\nnonsense")

    def test_swaps_of_other_sizes(self):
        self.bad(3, "casks 3 4\ndrops\nround a\nswap 0 1\nend\n")
        self.bad(3, "casks 3\ndrops\nround a\nover 1 0 1\nend\n")

    def test_names_that_are_there_already(self):
        self.bad(4, "casks 3\ndrops\nround a\nend\nround a\nend\n")
        self.bad(6, "casks 3\ndrops\nround a\nend\nround b\nend\nround a\nnonsense\n")

    def test_a_thirteenth_round(self):
        text = "casks 3\ndrops\n" + "".join(f"round {name}\nend\n" for name in NAMES)
        self.assertEqual(read_page(text).rounds().names(), list(NAMES))
        self.bad(26, text + "round more\nend\n")
        self.bad(26, text + "round more\nnonsense\n")
        self.bad(26, text + "round a\nend\n")

    def test_a_round_too_long(self):
        text = "casks 3\ndrops\nround a\n" + "tap 0 0\n" * 200
        self.assertEqual(len(read_page(text + "end\n").rounds().flat("a")), 200)
        self.refused(BadText, {"row": 203}, read_page, text + "tap 0 0\nend\n")
        self.refused(BadText, {"row": 203}, read_page, text + "tap 0 0\n" * 9)
        text = "casks 3\ndrops\nround a\n" + "tap 0 0\n" * 50 + "end\nround b\ncall a 3\ntap 0 0\n"
        self.assertEqual(len(read_page(text + "call a 0\nend\n").rounds().flat("b")), 151)
        self.refused(BadText, {"row": 58}, read_page, text + "call a 0\ncall a 1\nend\n")
        self.refused(BadText, {"row": 57}, read_page, text + "call a 9\nend\n")
        # A call that makes it too long is told in its own row, also where it stands ahead of bad ones.
        self.refused(BadText, {"row": 57}, read_page, text + "call a 1\nnonsense\n")
        less = text.replace("tap 0 0\nend", "end") + "call a 1\nswap 0 0\n"
        self.refused(BadText, {"row": 57}, read_page, less)
        self.assertEqual(model_row(less), 57)
        # None of the calls of another round is counted.
        text += "end\nround c\ncall b 1\n"
        self.assertEqual(len(read_page(text + "call a 0\nend\n").rounds().flat("c")), 151)

    def test_calls(self):
        start = "casks 3\ndrops\nround a\ntap 1 0\nend\nround b\n"
        for times in range(10):
            self.assertEqual(read_page(start + f"call a {times}\nend\n").rounds().flat("b"), [("tap", 1, 0)] * times)
        self.bad(6, start + "call a 10\nend\n")
        self.bad(6, start + "call b 1\nend\n")
        self.bad(6, start + "call c 1\nend\nround c\nend\n")

    def test_the_first_row_is_told(self):
        self.bad(0, "casks 0\ndrops 9\nround A\n")
        self.bad(1, "casks 3\ndrops 9\nround A\n")
        self.bad(2, "casks 3\ndrops 0\nround A\nfoo\n")

    def test_pages_bent_once(self):
        seen = {}
        for chance in chances(122, 60):
            sizes = some_sizes(chance)
            stand, rounds = some_stand(chance, sizes), some_rounds(chance, sizes)
            text = told_page(sizes, stand, rounds)
            if len(text) > 1200:
                continue
            for kind, other in self.bent(chance, text):
                row = model_row(other)
                seen.setdefault((kind, row is None), 0)
                seen[kind, row is None] += 1
                if row is None:
                    self.assertEqual(page(read_page(other)), other)
                else:
                    self.refused(BadText, {"row": row}, read_page, other)
        for kind in ("out", "doubled", "exchanged", "in", "sign out", "sign in", "cut"):
            self.assertGreater(seen[kind, False], 50, kind)
        self.assertGreater(sum(seen[kind, True] for kind in ("out", "doubled", "exchanged", "in")), 50)

    def bent(self, chance, text):
        rows = text.splitlines(keepends=True)
        more = ["\n", "end\n", "round new\n", "tap 1 0\n", "drain 1 0\n", "drops\n", "call a 1\n", "call end 10\n"]
        for at in range(len(rows)):
            yield "out", "".join(rows[:at] + rows[at + 1:])
            yield "doubled", "".join(rows[:at] + [rows[at]] + rows[at:])
            yield "exchanged", "".join(rows[:at] + rows[at:at + 2][::-1] + rows[at + 2:])
            yield "in", "".join(rows[:at] + [chance.choice(more)] + rows[at:])
            yield "cut", "".join(rows[:at]) + rows[at][:-1]
        for _ in range(20):
            at = chance.randrange(len(text))
            yield "sign out", text[:at] + text[at + 1:]
            yield "sign in", text[:at] + chance.choice("0129 -\nadend~") + text[at:]
        yield "cut", text[:-1]


if __name__ == "__main__":
    unittest.main()
