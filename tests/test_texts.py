"""Point [17]: hidelater.texts."""

import itertools
import re
import unittest

from hidelater.deeds import GREAT
from hidelater.errors import BadText
from hidelater.texts import read_step, step_text
from helping import RefusalTest
from making import chances, some_deed, some_sizes

NINES = "9" * 30
# Each pair: a step and its text.
TOLD = (
    (("over", 0, 0, 1), "over 0 0 1"),
    (("over", 12, 3, 0, 5, 1, 2, 4), "over 12 3 0 5 1 2 4"),
    (("down", 40, 1, 0), "down 40 1 0"),
    (("down", 7, 1, 0, 2, 3, 4, 5), "down 7 1 0 2 3 4 5"),
    (("swap", 0, 1), "swap 0 1"),
    (("tap", 100, 2), "tap 100 2"),
    (("drain", 1, 0), "drain 1 0"),
    (("call", "rain", 3), "call rain 3"),
    (("call", "a", 0), "call a 0"),
    (("call", "abcdefgh", 9), "call abcdefgh 9"),
    # Whether casks are there, or times are so, isn't looked at.
    (("swap", 7, 7), "swap 7 7"),
    (("swap", 99, int(NINES)), "swap 99 " + NINES),
    (("over", GREAT - 1, 9, 9), f"over {NINES} 9 9"),
    (("drain", 0, 10 ** 29), "drain 0 1" + "0" * 29),
    (("call", "call", 10), "call call 10"),
    (("call", "end", 10 ** 29), "call end 1" + "0" * 29),
    (("call", "over", int(NINES)), "call over " + NINES),
)

NUMBERS = ("0", "1", "9", "10", "907", NINES, "1" + "0" * 29)
BAD_NUMBERS = (
    "", "00", "01", "007", "-1", "+1", "-0", "1.0", "1_0", "a", "0x1", "1e3", "-", "1,", "0" * 30, "1" + "0" * 30,
    "9" * 31, "0" + NINES, "9" * 40, " ", "~", "9" * 400)
BAD_NAMES = ("", "A", "aB", "a1", "abcdefghi", "a-", "a_b", "a.", "1", "~", "`", "{")

# A step as a text, told once more.
NUMBER = "(0|[1-9][0-9]{0,29})"
STEP = re.compile(f"(over|down)( {NUMBER}){{3,7}}|(swap|tap|drain)( {NUMBER}){{2}}|call [a-z]{{1,8}} {NUMBER}")


class ThereAndBack(RefusalTest):

    def test_told_ones(self):
        for step, text in TOLD:
            with self.subTest(text=text):
                self.assertEqual(step_text(step), text)
                self.assertEqual(read_step(text), step)
                self.assertIs(type(step_text(step)), str)
                self.assertIs(type(read_step(text)), tuple)
                for thing in read_step(text)[2:]:
                    self.assertIs(type(thing), int)

    def test_all_counts_of_numbers(self):
        for word, many in itertools.product(("over", "down", "swap", "tap", "drain"), range(10)):
            fits = 3 <= many <= 7 if word in ("over", "down") else many == 2
            for number in NUMBERS:
                text = " ".join([word] + [number] * many)
                if fits:
                    self.assertEqual(read_step(text), (word,) + (int(number),) * many)
                    self.assertEqual(step_text((word,) + (int(number),) * many), text)
                else:
                    self.refused(BadText, {"row": 0, "word": "bad text"}, read_step, text)

    def test_deeds(self):
        for chance in chances(111, 1000):
            deed = some_deed(chance, some_sizes(chance))
            text = step_text(deed)
            self.assertIsNotNone(STEP.fullmatch(text))
            self.assertEqual(read_step(text), deed)

    def test_calls(self):
        for name in ("a", "z", "tap", "swap", "abcdefgh"):
            for number in NUMBERS:
                self.assertEqual(read_step(f"call {name} {number}"), ("call", name, int(number)))
                self.assertEqual(step_text(("call", name, int(number))), f"call {name} {number}")

    def test_by_name(self):
        self.assertEqual(step_text(step=("tap", 1, 2)), "tap 1 2")
        self.assertEqual(read_step(text="tap 1 2"), ("tap", 1, 2))


class OtherTexts(RefusalTest):

    def bad(self, text):
        self.refused(BadText, {"row": 0}, read_step, text)

    def test_no_text_and_words(self):
        for text in (
            "", " ", "  ", "over", "call", "0", "1 2 3", "pour 1 2", "end", "round a", "casks 3", "drops 0",
            "Over 1 0 1", "OVER 1 0 1", "overs 1 0 1", "ove 1 0 1", "tap", "TAP 1 2", "swap,0,1", "-", "a" * 6000,
        ):
            self.bad(text)

    def test_numbers(self):
        for number in BAD_NUMBERS:
            for text in (
                f"over {number} 0 1", f"over 0 {number} 1", f"down 0 1 {number}", f"down 0 1 2 3 4 {number}",
                f"swap {number} 1", f"swap 1 {number}", f"tap {number} 0", f"tap 0 {number}", f"drain {number} 0",
                f"drain 0 {number}", f"call a {number}",
            ):
                self.bad(text)

    def test_names(self):
        for name in BAD_NAMES:
            self.bad(f"call {name} 1")

    def test_too_few_and_too_many(self):
        for text in ("call a", "call", "call a 1 1", "call 1", "call a b", "call a b 1", "call 1 a", "call a 1 b"):
            self.bad(text)

    def test_blanks(self):
        for _, text in TOLD:
            self.bad(" " + text)
            self.bad(text + " ")
            self.bad("\n" + text)
            self.bad(text + "\n")
            for at, sign in enumerate(text):
                if sign == " ":
                    self.bad(text[:at] + " " + text[at:])
                    self.bad(text[:at] + "\n" + text[at + 1:])
                    self.bad(text[:at] + "," + text[at + 1:])

    def test_texts_bent_once(self):
        signs = [chr(code) for code in range(32, 127) if chr(code) != "%"]
        seen = {True: 0, False: 0}
        for _, text in TOLD:
            others = [text[:at] + text[at + 1:] for at in range(len(text))]
            others += [text[:at] + sign + text[at:] for at in range(len(text) + 1) for sign in signs]
            others += [text[:at] + sign + text[at + 1:] for at in range(len(text)) for sign in signs]
            for other in others:
                good = STEP.fullmatch(other) is not None
                seen[good] += 1
                if good:
                    self.assertEqual(step_text(read_step(other)), other)
                else:
                    self.bad(other)
        self.assertGreater(min(seen.values()), 1000)


if __name__ == "__main__":
    unittest.main()
