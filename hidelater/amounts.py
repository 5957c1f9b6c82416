"""Deeds done by counts alone, and where drops are, told by counts alone."""

from hidelater.casks import GONE, counts_of, hidden, look_counts, look_stand
from hidelater.deeds import look_deed, look_dry, look_row


def poured(sizes, counts, deed):
    """The counts behind a deed."""
    look_counts(sizes, counts)
    look_deed(sizes, deed)
    return counts_behind(sizes, counts, deed)


def poured_all(sizes, counts, deeds):
    """The counts behind a row of deeds."""
    look_counts(sizes, counts)
    look_row(sizes, deeds)
    return counts_behind_row(sizes, counts, deeds)


def by_counts(sizes, stand, deeds):
    """The stand behind a row of deeds without taps."""
    look_stand(sizes, stand)
    look_row(sizes, deeds)
    look_dry(deeds)
    # Later drops never change where earlier ones go, so each drop is what its coming adds to the counts at last.
    fewer = counts_behind_row(sizes, counts_of(sizes, ()), deeds)
    places = []
    for many in range(1, len(stand) + 1):
        more = counts_behind_row(sizes, counts_of(sizes, hidden(stand, many)), deeds)
        places.append(gained(fewer, more))
        fewer = more
    return tuple(places)


def gained(fewer, more):
    """The cask in which there is more, or GONE where both counts are the same."""
    for cask, (less, many) in enumerate(zip(fewer, more)):
        if less != many:
            return cask
    return GONE


def led(sizes, counts, going, casks):
    """The counts behind leading so many drops of the first of the casks to the next one and on."""
    held = list(counts)
    held[casks[0]] -= going
    for cask in casks[1:]:
        taken = min(going, sizes[cask] - held[cask])
        held[cask] += taken
        going -= taken
    held[casks[0]] += going
    return tuple(held)


def over(sizes, counts, deed):
    """The counts behind a good deed of this word."""
    return led(sizes, counts, min(deed[1], counts[deed[2]]), deed[2:])


def down(sizes, counts, deed):
    """The counts behind a good deed of this word."""
    return led(sizes, counts, max(counts[deed[2]] - deed[1], 0), deed[2:])


def swap(sizes, counts, deed):
    """The counts behind a good deed of this word."""
    held = list(counts)
    held[deed[1]], held[deed[2]] = counts[deed[2]], counts[deed[1]]
    return tuple(held)


def tap(sizes, counts, deed):
    """The counts behind a good deed of this word."""
    held = list(counts)
    held[deed[2]] = min(held[deed[2]] + deed[1], sizes[deed[2]])
    return tuple(held)


def drain(sizes, counts, deed):
    """The counts behind a good deed of this word."""
    held = list(counts)
    held[deed[2]] = max(held[deed[2]] - deed[1], 0)
    return tuple(held)


POURINGS = {"over": over, "down": down, "swap": swap, "tap": tap, "drain": drain}


def counts_behind(sizes, counts, deed):
    """The counts behind a deed, where all that is handed in is known to be good."""
    pouring = POURINGS[deed[0]]
    return pouring(sizes, counts, deed)


def counts_behind_row(sizes, counts, deeds):
    """The counts behind a row of deeds, where all that is handed in is known to be good."""
    for deed in deeds:
        counts = counts_behind(sizes, counts, deed)
    return counts
