"""Tables: where one drop more at first is at last, cask by cask."""

from hidelater.amounts import counts_behind_row, gained
from hidelater.casks import GONE, look_counts
from hidelater.deeds import look_row
from hidelater.far import far_behind


def one_more(sizes, counts, deeds):
    """The table of a row of deeds and of counts."""
    look_counts(sizes, counts)
    look_row(sizes, deeds)
    return table_behind(sizes, counts, deeds, 1)


def table_behind(sizes, counts, deeds, times):
    """The table of a row done so many times, where all that is handed in is known to be good."""
    last = far_behind(counts_behind_row, sizes, counts, deeds, times)
    return tuple([end_of_one(sizes, counts, deeds, times, cask, last) for cask in range(len(sizes))])


def end_of_one(sizes, counts, deeds, times, cask, last):
    """Where one drop more in a cask makes one more than the counts at last, as in a table."""
    if counts[cask] == sizes[cask]:
        return None
    more = counts[:cask] + (counts[cask] + 1,) + counts[cask + 1:]
    return gained(last, far_behind(counts_behind_row, sizes, more, deeds, times))


def joined(first, second):
    """The table of what two tables tell one behind the other."""
    return tuple([end if end is None or end == GONE else second[end] for end in first])
