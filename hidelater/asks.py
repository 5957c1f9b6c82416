"""When a cask holds so many drops, round by round, and why it never does."""

from hidelater.amounts import counts_behind_row
from hidelater.casks import count_fault, look_cask, look_counts, within
from hidelater.far import look_again, trail_of_counts
from hidelater.kin import greatest_of


def when(sizes, counts, deeds, *, cask, least=1):
    """The tuple (early, ahead, length, rests) of the times at which a cask holds so many at least."""
    rows, ahead = rows_and_ahead(sizes, counts, deeds, cask)
    early = times_of(rows[:ahead], cask, least)
    rests = times_of(rows[ahead:], cask, least)
    return early, ahead, len(rows) - ahead, rests


def first_time(sizes, counts, deeds, *, cask, least=1):
    """The least count of rounds behind which a cask holds so many at least, or None."""
    rows, ahead = rows_and_ahead(sizes, counts, deeds, cask)
    times = times_of(rows, cask, least)
    return times[0] if len(times) > 0 else None


def never(sizes, counts, deeds, *, cask, least=1):
    """A never paper where a cask never holds so many, else None."""
    rows, ahead = rows_and_ahead(sizes, counts, deeds, cask)
    if len(times_of(rows, cask, least)) > 0:
        return None
    return rows[:ahead], greatest_of(rows[ahead:])


def never_holds(sizes, counts, deeds, paper, *, cask, least=1):
    """Whether a paper is a never paper that shows that a cask never holds so many."""
    look_counts(sizes, counts)
    look_again(sizes, deeds)
    look_cask(sizes, cask)
    rows, lid = paper
    for row in rows:
        if row != counts or row[cask] >= least:
            return False
        counts = counts_behind_row(sizes, counts, deeds)
    if count_fault(sizes, lid) is not None or lid[cask] >= least:
        return False
    return within(counts, lid) and within(counts_behind_row(sizes, lid, deeds), lid)


def rows_and_ahead(sizes, counts, deeds, cask):
    """The list of the counts behind no rounds, one and so on till some come again, and how many the ring has ahead."""
    rows, again = trail_of_counts(sizes, counts, deeds)
    look_cask(sizes, cask)
    return rows, rows.index(again)


def times_of(rows, cask, least):
    """The rising list of the numbers of those rows that have so many in a cask."""
    return [number for number, row in enumerate(rows) if row[cask] >= least]
