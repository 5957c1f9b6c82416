"""Why rings are short: each ring of counts is told by few families of members that the row leads round and round."""

from hidelater.amounts import counts_behind_row
from hidelater.casks import count_fault, greater, lesser, look_counts, within
from hidelater.far import look_again, turns


def ends(sizes, counts, deeds):
    """The pair of the least and the greatest counts of the ring to which counts come."""
    rows = turns(sizes, counts, deeds)
    return least_of(rows), greatest_of(rows)


def kin(sizes, counts, deeds):
    """A kin paper of the ring to which counts come."""
    rows = turns(sizes, counts, deeds)
    owners = owners_of(rows)
    families = []
    placed = {}
    # The members rise, so the first one that is in no family yet is the least one of its own.
    for first in sorted(owners):
        if first not in placed:
            family = family_of(sizes, deeds, first)
            families.append([(member, tuple(owners[member])) for member in family])
            for member in family:
                placed[member] = True
    return least_of(rows), families


def kin_holds(sizes, counts, deeds, paper):
    """Whether a kin paper holds for counts."""
    look_counts(sizes, counts)
    look_again(sizes, deeds)
    least, families = paper
    if count_fault(sizes, least) is not None or counts_behind_row(sizes, least, deeds) != least:
        return False
    for family in families:
        if not members_fit(sizes, least, family) or not goes_about(sizes, deeds, family):
            return False
    return counts == built(least, families, counts)


def least_of(rows):
    """The least number of each place; there is a row at least."""
    least = rows[0]
    for row in rows:
        least = lesser(least, row)
    return least


def greatest_of(rows):
    """The greatest number of each place; there is a row at least."""
    greatest = rows[0]
    for row in rows:
        greatest = greater(greatest, row)
    return greatest


def owners_of(rows):
    """A dict from each member of a ring to the rising list of the casks that it owns."""
    owners = {}
    low = least_of(rows)
    high = greatest_of(rows)
    for cask in range(len(low)):
        for many in range(low[cask] + 1, high[cask] + 1):
            member = least_of([row for row in rows if row[cask] >= many])
            # One that has more there is met again, and owns the cask, at the number that it has.
            if member[cask] == many:
                owners.setdefault(member, []).append(cask)
    return owners


def family_of(sizes, deeds, first):
    """The list of the members to which the first one leads, till it comes back."""
    family = [first]
    member = counts_behind_row(sizes, first, deeds)
    while member != first:
        family.append(member)
        member = counts_behind_row(sizes, member, deeds)
    return family


def members_fit(sizes, least, family):
    """Whether a family has members, and all are counts that own casks as a kin paper asks for."""
    taken = {}
    for member, casks in family:
        if count_fault(sizes, member) is not None or len(casks) == 0:
            return False
        for cask in casks:
            if not 0 <= cask < len(sizes) or cask in taken or member[cask] <= least[cask]:
                return False
            taken[cask] = True
    return len(family) > 0


def goes_about(sizes, deeds, family):
    """Whether the row leads each member, which are counts, to the one behind it, and the last one to the first one."""
    members = [member for member, casks in family]
    led = [counts_behind_row(sizes, member, deeds) for member in members]
    return led == members[1:] + members[:1]


def built(least, families, counts):
    """Cask by cask, the greatest of the least counts and of those members that are nowhere above the counts."""
    level = least
    for family in families:
        for member, casks in family:
            if within(member, counts):
                level = greater(level, member)
    return level
