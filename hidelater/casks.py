"""Sizes, counts and stands of casks, and tuples of numbers compared place by place."""

from hidelater.errors import BadCounts, BadSizes, BadStand, NoCask, NoDrop, TooMany

MOST_CASKS = 6
MOST_SIZE = 40
MOST_DROPS = 60
GONE = -1


def look_sizes(sizes):
    """Refuse what are no sizes."""
    if not 1 <= len(sizes) <= MOST_CASKS:
        raise BadSizes(-1)
    for cask, size in enumerate(sizes):
        if not 1 <= size <= MOST_SIZE:
            raise BadSizes(cask)


def look_counts(sizes, counts):
    """Refuse what are no counts of casks of these sizes."""
    look_sizes(sizes)
    fault = count_fault(sizes, counts)
    if fault is not None:
        raise BadCounts(fault)


def count_fault(sizes, counts):
    """The `cask` with which counts are refused, or None for good ones; the sizes are good."""
    if len(counts) != len(sizes):
        return -1
    for cask, many in enumerate(counts):
        if not 0 <= many <= sizes[cask]:
            return cask
    return None


def look_stand(sizes, stand):
    """Refuse what is no stand in casks of these sizes."""
    look_sizes(sizes)
    if len(stand) > MOST_DROPS:
        raise BadStand(-1)
    free = list(sizes)
    for rank, cask in enumerate(stand):
        if cask == GONE:
            continue
        if not 0 <= cask < len(sizes) or free[cask] == 0:
            raise BadStand(rank)
        free[cask] -= 1


def look_cask(sizes, cask):
    """Refuse a cask that there isn't; the sizes are good."""
    if not 0 <= cask < len(sizes):
        raise NoCask(cask)


def counts_of(sizes, stand):
    """How many drops of a stand are in each cask."""
    look_stand(sizes, stand)
    return tuple([stand.count(cask) for cask in range(len(sizes))])


def stand_of(sizes, counts):
    """The stand of these counts whose ranks rise from cask to cask."""
    look_counts(sizes, counts)
    if sum(counts) > MOST_DROPS:
        raise TooMany(MOST_DROPS)
    places = []
    for cask, many in enumerate(counts):
        places.extend([cask] * many)
    return tuple(places)


def room(sizes, counts):
    """How many more drops each cask takes."""
    look_counts(sizes, counts)
    return tuple([size - many for size, many in zip(sizes, counts)])


def hidden(stand, many):
    """The stand of the first so many drops alone."""
    if not 0 <= many <= len(stand):
        raise NoDrop(many)
    return stand[:many]


def lesser(one, other):
    """The lesser number of each place."""
    return tuple([min(a, b) for a, b in zip(one, other)])


def greater(one, other):
    """The greater number of each place."""
    return tuple([max(a, b) for a, b in zip(one, other)])


def within(one, other):
    """Whether the one is nowhere above the other."""
    return all([a <= b for a, b in zip(one, other)])


def apart(one, other):
    """The sum of what the two differ by, place by place."""
    return sum([abs(a - b) for a, b in zip(one, other)])
