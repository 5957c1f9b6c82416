"""Steps as texts, and the rows of a page."""

from hidelater.casks import GONE
from hidelater.errors import BadText
from hidelater.rounds import is_name

FIGURES = "0123456789"
MOST_FIGURES = 30
# How many numbers the deeds of each word can have.
NUMBERS = {"over": (3, 4, 5, 6, 7), "down": (3, 4, 5, 6, 7), "swap": (2,), "tap": (2,), "drain": (2,)}


def step_text(step):
    """A step as a text."""
    return " ".join([str(thing) for thing in step])


def read_step(text):
    """The step that is so written."""
    parts = text.split(" ")
    if parts[0] == "call":
        return read_call(parts)
    if len(parts) - 1 not in NUMBERS.get(parts[0], ()):
        raise BadText(0)
    return (parts[0],) + read_numbers(parts[1:], 0)


def read_call(parts):
    """The call whose things are so written."""
    if len(parts) != 3 or not is_name(parts[1]):
        raise BadText(0)
    return ("call", parts[1]) + read_numbers(parts[2:], 0)


def read_numbers(parts, row):
    """The tuple of numbers that are so written; others are refused with the row in which they stand."""
    if not all([is_number(part) for part in parts]):
        raise BadText(row)
    return tuple([int(part) for part in parts])


def is_number(text):
    """Whether a text is a number in figures without needless noughts, and not too long."""
    if not 1 <= len(text) <= MOST_FIGURES or not all([sign in FIGURES for sign in text]):
        return False
    return text == "0" or text[0] != "0"


def page_rows(sizes, stand, book):
    """The list of the rows of a page, each with its line feed."""
    places = ["-" if place == GONE else str(place) for place in stand]
    rows = [step_text(("casks", *sizes)), step_text(("drops", *places))]
    for name in book.names():
        rows.append(f"round {name}")
        rows.extend([step_text(step) for step in book.steps(name)])
        rows.append("end")
    return [row + "\n" for row in rows]
