"""What deeds do, told once more in another way: drop by drop, one at a time."""

from hidelater.casks import GONE


def model_done(sizes, stand, deed):
    """The stand behind a good deed, or None where a tap would make more than sixty drops."""
    casks = [[rank for rank, place in enumerate(stand) if place == cask] for cask in range(len(sizes))]
    many = len(stand)
    if deed[0] in ("over", "down"):
        model_lead(sizes, casks, deed)
    elif deed[0] == "swap":
        casks[deed[1]], casks[deed[2]] = casks[deed[2]], casks[deed[1]]
    elif deed[0] == "drain":
        for _ in range(min(deed[1], 100)):
            if casks[deed[2]]:
                casks[deed[2]].remove(min(casks[deed[2]]))
    else:
        left = deed[1]
        while left and len(casks[deed[2]]) < sizes[deed[2]]:
            casks[deed[2]].append(many)
            many += 1
            left -= 1
        if many > 60:
            return None
    places = [GONE] * many
    for cask, ranks in enumerate(casks):
        for rank in ranks:
            places[rank] = cask
    return tuple(places)


def model_lead(sizes, casks, deed):
    """Each drop that goes pushes the last one out of a cask that is full by it."""
    first, way = deed[2], deed[3:]
    held = sorted(casks[first])
    going = [rank for at, rank in enumerate(held) if (at < deed[1]) == (deed[0] == "over")]
    casks[first] = [rank for rank in held if rank not in going]
    for rank in going:
        pushed = rank
        for cask in way:
            casks[cask].append(pushed)
            if len(casks[cask]) <= sizes[cask]:
                break
            pushed = max(casks[cask])
            casks[cask].remove(pushed)
        else:
            casks[first].append(pushed)


def model_done_all(sizes, stand, deeds):
    """The stands at first and behind each deed; None ends the list where a tap would make too many."""
    stands = [stand]
    for deed in deeds:
        stands.append(model_done(sizes, stands[-1], deed))
        if stands[-1] is None:
            break
    return stands


def model_poured(sizes, counts, deed):
    """The counts behind a good deed."""
    held = list(counts)
    if deed[0] == "swap":
        held[deed[1]], held[deed[2]] = held[deed[2]], held[deed[1]]
    elif deed[0] == "tap":
        held[deed[2]] += min(deed[1], sizes[deed[2]] - held[deed[2]])
    elif deed[0] == "drain":
        held[deed[2]] -= min(deed[1], held[deed[2]])
    else:
        first = counts[deed[2]]
        going = min(deed[1], first) if deed[0] == "over" else first - min(deed[1], first)
        for _ in range(going):
            for cask in deed[3:]:
                if held[cask] < sizes[cask]:
                    held[deed[2]] -= 1
                    held[cask] += 1
                    break
    return tuple(held)


def model_round(sizes, counts, deeds):
    """The counts behind a row of good deeds."""
    for deed in deeds:
        counts = model_poured(sizes, counts, deed)
    return counts


def model_round_of_drops(sizes, stand, deeds):
    """The stand behind a row of good deeds without taps."""
    return model_done_all(sizes, stand, deeds)[-1]


def model_walk(lead, sizes, start, deeds):
    """A plain walk: all that comes till one comes again, and how many come ahead of that one."""
    rows = [start]
    while True:
        following = lead(sizes, rows[-1], deeds)
        if following in rows:
            return rows, rows.index(following)
        rows.append(following)


def model_turns(sizes, counts, deeds):
    """The counts that come again, from the first ones on."""
    rows, ahead = model_walk(model_round, sizes, counts, deeds)
    return rows[ahead:]


def model_kin(sizes, counts, deeds):
    """The kin paper, by the words of point [14] one after the other."""
    rows = model_turns(sizes, counts, deeds)
    casks = range(len(sizes))
    least = tuple(min(row[cask] for row in rows) for cask in casks)
    greatest = tuple(max(row[cask] for row in rows) for cask in casks)

    def least_with(many, owned):
        those = [row for row in rows if row[owned] >= many]
        return tuple(min(row[cask] for row in those) for cask in casks)

    left = {least_with(many, cask) for cask in casks for many in range(least[cask] + 1, greatest[cask] + 1)}
    owned = {
        member: tuple(
            cask for cask in casks if member[cask] > least[cask] and least_with(member[cask], cask) == member)
        for member in left
    }
    families = []
    while left:
        family = [min(left)]
        while len(family) == 1 or family[-1] != family[0]:
            family.append(model_round(sizes, family[-1], deeds))
        families.append([(member, owned[member]) for member in family[:-1]])
        left -= set(family)
    return least, families


def model_are_counts(sizes, counts):
    """Whether a tuple of numbers is counts."""
    return len(counts) == len(sizes) and all(0 <= many <= size for many, size in zip(counts, sizes))


def model_kin_holds(sizes, counts, deeds, paper):
    """Whether a kin paper holds, by the words of point [15] one after the other."""
    least, families = paper
    if not model_are_counts(sizes, least) or model_round(sizes, least, deeds) != least:
        return False
    level = list(least)
    for family in families:
        owned = [cask for _, casks in family for cask in casks]
        if not family or len(set(owned)) < len(owned) or not set(owned) <= set(range(len(sizes))):
            return False
        for number, (member, casks) in enumerate(family):
            if not model_are_counts(sizes, member) or not casks:
                return False
            if any(member[cask] <= least[cask] for cask in casks):
                return False
            if model_round(sizes, member, deeds) != family[(number + 1) % len(family)][0]:
                return False
            if all(here <= there for here, there in zip(member, counts)):
                level = [max(here, there) for here, there in zip(member, level)]
    return tuple(level) == counts
