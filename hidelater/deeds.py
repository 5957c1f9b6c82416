"""What is a deed, and what is a row of deeds."""

from hidelater.casks import look_sizes
from hidelater.errors import BadDeed, BadRow, Tapped

GREAT = 10 ** 30
MOST_ROW = 400
WORDS = ("over", "down", "swap", "tap", "drain")


def look_deed(sizes, deed):
    """Refuse what is no deed for casks of these sizes."""
    look_sizes(sizes)
    place = fault_place(sizes, deed)
    if place is not None:
        raise BadDeed(place)


def look_row(sizes, deeds):
    """Refuse a row of which one is no deed for casks of these sizes."""
    look_sizes(sizes)
    for step, deed in enumerate(deeds):
        place = fault_place(sizes, deed)
        if place is not None:
            raise BadRow(step, place)


def has_tap(sizes, deeds):
    """Whether a row of deeds has a tap."""
    look_row(sizes, deeds)
    return any([deed[0] == "tap" for deed in deeds])


def look_dry(deeds):
    """Refuse a row of good deeds that has a tap, by the first one."""
    for step, deed in enumerate(deeds):
        if deed[0] == "tap":
            raise Tapped(step)


def fault_place(sizes, deed):
    """The `place` with which a deed is refused, or None for a good one; the sizes are good."""
    if len(deed) == 0 or deed[0] not in WORDS:
        return 0
    if not length_fits(sizes, deed):
        return -1
    if deed[0] == "swap":
        return swap_fault(sizes, deed)
    if not 0 <= deed[1] < GREAT:
        return 1
    return cask_fault(sizes, deed, 2)


def length_fits(sizes, deed):
    """Whether a deed has as many things as its word asks for."""
    if deed[0] in ("over", "down"):
        return 4 <= len(deed) <= 2 + len(sizes)
    return len(deed) == 3


def swap_fault(sizes, deed):
    """The first place of a swap that isn't as it must be, or None."""
    place = cask_fault(sizes, deed, 1)
    if place is None and sizes[deed[1]] != sizes[deed[2]]:
        return 2
    return place


def cask_fault(sizes, deed, start):
    """The first place from start on that has no cask, or one that stands there already, or None."""
    for place in range(start, len(deed)):
        cask = deed[place]
        if not 0 <= cask < len(sizes) or cask in deed[start:place]:
            return place
    return None
