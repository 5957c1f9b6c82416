"""Deeds done drop by drop; which drops are first and last is told by their ranks."""

from hidelater.casks import GONE, MOST_DROPS, look_stand
from hidelater.deeds import look_deed, look_row
from hidelater.errors import NoDrop, TooMany


def done(sizes, stand, deed):
    """The stand behind a deed."""
    look_stand(sizes, stand)
    look_deed(sizes, deed)
    return stand_behind(sizes, stand, deed)


def done_all(sizes, stand, deeds):
    """The stand behind a row of deeds."""
    look_stand(sizes, stand)
    look_row(sizes, deeds)
    return stand_behind_row(sizes, stand, deeds)


def path(sizes, stand, deeds, rank):
    """The list of where a drop of the stand is at first and behind each deed."""
    look_stand(sizes, stand)
    look_row(sizes, deeds)
    if not 0 <= rank < len(stand):
        raise NoDrop(rank)
    places = [stand[rank]]
    for deed in deeds:
        stand = stand_behind(sizes, stand, deed)
        places.append(stand[rank])
    return places


def ranks_in(stand, cask):
    """The rising list of the ranks that are in a cask."""
    return [rank for rank, place in enumerate(stand) if place == cask]


def led(sizes, stand, going, casks):
    """The stand behind leading some drops of the first of the casks to the next one and on."""
    places = list(stand)
    for cask in casks[1:]:
        # Those that go still stand in earlier casks of the way, so none of them is found here twice.
        there = sorted(ranks_in(places, cask) + going)
        for rank in there[:sizes[cask]]:
            places[rank] = cask
        going = there[sizes[cask]:]
    for rank in going:
        places[rank] = casks[0]
    return tuple(places)


def over(sizes, stand, deed):
    """The stand behind a good deed of this word."""
    return led(sizes, stand, ranks_in(stand, deed[2])[:deed[1]], deed[2:])


def down(sizes, stand, deed):
    """The stand behind a good deed of this word."""
    return led(sizes, stand, ranks_in(stand, deed[2])[deed[1]:], deed[2:])


def swap(sizes, stand, deed):
    """The stand behind a good deed of this word."""
    exchanged = {deed[1]: deed[2], deed[2]: deed[1]}
    return tuple([exchanged.get(place, place) for place in stand])


def tap(sizes, stand, deed):
    """The stand behind a good deed of this word, unless there would be too many drops."""
    cask = deed[2]
    fresh = min(deed[1], sizes[cask] - stand.count(cask))
    if len(stand) + fresh > MOST_DROPS:
        raise TooMany(MOST_DROPS)
    return stand + (cask,) * fresh


def drain(sizes, stand, deed):
    """The stand behind a good deed of this word."""
    places = list(stand)
    for rank in ranks_in(stand, deed[2])[:deed[1]]:
        places[rank] = GONE
    return tuple(places)


DOINGS = {"over": over, "down": down, "swap": swap, "tap": tap, "drain": drain}


def stand_behind(sizes, stand, deed):
    """The stand behind a deed, where all that is handed in is known to be good."""
    doing = DOINGS[deed[0]]
    return doing(sizes, stand, deed)


def stand_behind_row(sizes, stand, deeds):
    """The stand behind a row of deeds, where all that is handed in is known to be good."""
    for deed in deeds:
        stand = stand_behind(sizes, stand, deed)
    return stand
