"""Lofts as texts."""

from hidelater.casks import GONE, look_sizes, look_stand
from hidelater.errors import BadName, BadRow, BadSizes, BadStand, BadText, NoRound, Taken, TooMany
from hidelater.loft import begun
from hidelater.rounds import MOST_FLAT, Book
from hidelater.texts import read_numbers, read_step

OPENING = "round "


def page(loft):
    """The text of a loft."""
    return str(loft)


def read_page(text):
    """The Loft of which a text is the page."""
    rows = text.split("\n")
    sizes = read_casks(rows)
    stand = read_drops(rows, sizes)
    book = Book(sizes)
    at = 2
    # What is behind the last line feed is a row without its own, unless it is nothing.
    while at < len(rows) - 1 or rows[at] != "":
        at = read_round(rows, at, book)
    return begun(sizes, stand, book)


def row_at(rows, at):
    """The row of that number, which must be there with its line feed."""
    if at >= len(rows) - 1:
        raise BadText(at)
    return rows[at]


def things_at(rows, at, word):
    """The list of what stands behind the word with which a row must begin."""
    parts = row_at(rows, at).split(" ")
    if parts[0] != word:
        raise BadText(at)
    return parts[1:]


def read_casks(rows):
    """The sizes of the first row."""
    sizes = read_numbers(things_at(rows, 0, "casks"), 0)
    try:
        look_sizes(sizes)
    except BadSizes:
        raise BadText(0) from None
    return sizes


def read_drops(rows, sizes):
    """The stand of the second row."""
    stand = tuple([read_place(thing) for thing in things_at(rows, 1, "drops")])
    try:
        look_stand(sizes, stand)
    except BadStand:
        raise BadText(1) from None
    return stand


def read_place(thing):
    """Where a drop is."""
    if thing == "-":
        return GONE
    return read_numbers([thing], 1)[0]


def read_round(rows, at, book):
    """Write the round that begins in a row into the book; told is the number of the row behind it."""
    name = read_opening(rows, at, book)
    steps = []
    many = 0
    at += 1
    while row_at(rows, at) != "end":
        step = step_at(rows, at, book)
        many += book.count_deeds(step)
        if many > MOST_FLAT:
            raise BadText(at)
        steps.append(step)
        at += 1
    book.write(name, steps)
    return at + 1


def read_opening(rows, at, book):
    """The name of the round that begins in a row, under which one can be written now."""
    row = row_at(rows, at)
    if not row.startswith(OPENING):
        raise BadText(at)
    name = row[len(OPENING):]
    try:
        book.look_fresh(name)
    except (BadName, Taken, TooMany):
        raise BadText(at) from None
    return name


def step_at(rows, at, book):
    """The step of a row, one that can be written in the book."""
    try:
        step = read_step(rows[at])
        book.look_steps([step])
    except (BadText, BadRow, NoRound):
        raise BadText(at) from None
    return step
