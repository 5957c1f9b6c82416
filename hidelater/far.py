"""What stands behind a row of deeds done again and again, and the ring to which it comes."""

from hidelater.amounts import counts_behind_row
from hidelater.casks import look_counts, look_stand
from hidelater.deeds import look_dry, look_row
from hidelater.errors import BadTimes
from hidelater.ranks import stand_behind_row

FAR = (10 ** 60) ** 5


def behind(sizes, stand, deeds, times):
    """The stand behind so many times the row."""
    look_stand(sizes, stand)
    look_again(sizes, deeds)
    look_times(times)
    return far_behind(stand_behind_row, sizes, stand, deeds, times)


def behind_counts(sizes, counts, deeds, times):
    """The counts behind so many times the row."""
    look_counts(sizes, counts)
    look_again(sizes, deeds)
    look_times(times)
    return far_behind(counts_behind_row, sizes, counts, deeds, times)


def ring(sizes, stand, deeds):
    """The pair of how many rounds are ahead of the ring of a stand, and of its length."""
    look_stand(sizes, stand)
    look_again(sizes, deeds)
    return ring_of_trail(trail(stand_behind_row, sizes, stand, deeds, FAR))


def ring_of_counts(sizes, counts, deeds):
    """The pair of how many rounds are ahead of the ring of counts, and of its length."""
    return ring_of_trail(trail_of_counts(sizes, counts, deeds))


def turns(sizes, counts, deeds):
    """The list of the counts that come again, from the first ones on."""
    rows, again = trail_of_counts(sizes, counts, deeds)
    return rows[rows.index(again):]


def look_again(sizes, deeds):
    """Refuse a row that can't be done again and again."""
    look_row(sizes, deeds)
    look_dry(deeds)


def look_times(times):
    """Refuse what is no count of times."""
    if not 0 <= times < FAR:
        raise BadTimes()


def trail(lead, sizes, start, deeds, most):
    """The list of what stands behind no rounds, one and so on, till one comes again or `most` are done, and the next.

    `lead` tells what stands behind one round.
    """
    rows = {}
    while len(rows) < most and start not in rows:
        rows[start] = True
        start = lead(sizes, start, deeds)
    return list(rows), start


def trail_of_counts(sizes, counts, deeds):
    """The trail of counts till some come again."""
    look_counts(sizes, counts)
    look_again(sizes, deeds)
    return trail(counts_behind_row, sizes, counts, deeds, FAR)


def ring_of_trail(told):
    """The pair of how many rows of a trail are ahead of its ring, and of the ring's length."""
    rows, again = told
    ahead = rows.index(again)
    return ahead, len(rows) - ahead


def far_behind(lead, sizes, start, deeds, times):
    """What stands behind so many rounds, where all that is handed in is known to be good."""
    rows, last = trail(lead, sizes, start, deeds, times)
    if len(rows) == times:
        return last
    ahead, length = ring_of_trail((rows, last))
    return rows[ahead + (times - ahead) % length]
