"""Two loads of the casks through the same rounds: whether they meet, and how far apart they stay."""

from hidelater.amounts import counts_behind_row
from hidelater.casks import apart, look_counts
from hidelater.far import FAR, look_again, trail


def meet(sizes, one, other, deeds):
    """The least count of rounds behind which two counts are alike, or None."""
    for times, (first, second) in enumerate(pairs_behind(sizes, one, other, deeds)):
        if first == second:
            return times
    return None


def apart_at_last(sizes, one, other, deeds):
    """The pair of how far apart two counts stay, and of the least count of rounds behind which they are so."""
    # No two loads come farther apart, so what they are apart in the end they stay from its first time on.
    gaps = [apart(first, second) for first, second in pairs_behind(sizes, one, other, deeds)]
    return gaps[-1], gaps.index(gaps[-1])


def pairs_behind(sizes, one, other, deeds):
    """The list of both counts behind no rounds, one and so on, till both come again at once."""
    look_counts(sizes, one)
    look_counts(sizes, other)
    look_again(sizes, deeds)
    rows, again = trail(both_behind, sizes, (one, other), deeds, FAR)
    return rows


def both_behind(sizes, pair, deeds):
    """Both counts behind the row."""
    one, other = pair
    return counts_behind_row(sizes, one, deeds), counts_behind_row(sizes, other, deeds)
