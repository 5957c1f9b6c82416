"""What deeds do, told once more in another way: drop by drop, one at a time."""

from hidelater.casks import GONE


def model_done(sizes, stand, deed):
    """The stand behind a good deed, or None where a tap would make more than sixty drops."""
    casks = [[rank for rank, place in enumerate(stand) if place == cask] for cask in range(len(sizes))]
    many = len(stand)
    if deed[0] in ("over", "down"):
        model_lead(sizes, casks, deed)
    elif deed[0] == "swap":
        casks[deed[1]], casks[deed[2]] = casks[deed[2]], casks[deed[1]]
    elif deed[0] == "drain":
        for _ in range(min(deed[1], 100)):
            if casks[deed[2]]:
                casks[deed[2]].remove(min(casks[deed[2]]))
    else:
        left = deed[1]
        while left and len(casks[deed[2]]) < sizes[deed[2]]:
            casks[deed[2]].append(many)
            many += 1
            left -= 1
        if many > 60:
            return None
    places = [GONE] * many
    for cask, ranks in enumerate(casks):
        for rank in ranks:
            places[rank] = cask
    return tuple(places)


def model_lead(sizes, casks, deed):
    """Each drop that goes pushes the last one out of a cask that is full by it."""
    first, way = deed[2], deed[3:]
    held = sorted(casks[first])
    going = [rank for at, rank in enumerate(held) if (at < deed[1]) == (deed[0] == "over")]
    casks[first] = [rank for rank in held if rank not in going]
    for rank in going:
        pushed = rank
        for cask in way:
            casks[cask].append(pushed)
            if len(casks[cask]) <= sizes[cask]:
                break
            pushed = max(casks[cask])
            casks[cask].remove(pushed)
        else:
            casks[first].append(pushed)


def model_done_all(sizes, stand, deeds):
    """The stands at first and behind each deed; None ends the list where a tap would make too many."""
    stands = [stand]
    for deed in deeds:
        stands.append(model_done(sizes, stands[-1], deed))
        if stands[-1] is None:
            break
    return stands


def model_poured(sizes, counts, deed):
    """The counts behind a good deed."""
    held = list(counts)
    if deed[0] == "swap":
        held[deed[1]], held[deed[2]] = held[deed[2]], held[deed[1]]
    elif deed[0] == "tap":
        held[deed[2]] += min(deed[1], sizes[deed[2]] - held[deed[2]])
    elif deed[0] == "drain":
        held[deed[2]] -= min(deed[1], held[deed[2]])
    else:
        first = counts[deed[2]]
        going = min(deed[1], first) if deed[0] == "over" else first - min(deed[1], first)
        for _ in range(going):
            for cask in deed[3:]:
                if held[cask] < sizes[cask]:
                    held[deed[2]] -= 1
                    held[cask] += 1
                    break
    return tuple(held)
