"""Good sizes, counts, stands and deeds for the tests, made from told seeds, so the same ones in every run."""

import random

from hidelater.casks import GONE
from hidelater.deeds import GREAT

WORDS = ("over", "down", "swap", "tap", "drain")
DRY_WORDS = ("over", "down", "swap", "drain")


def chances(seed, many):
    """So many sources of chance, each with its own seed."""
    for number in range(many):
        yield random.Random(seed * 100003 + number)


def some_sizes(chance, least=1):
    """One to six sizes, small or to forty, often some alike so that there are swaps."""
    most = chance.choice((2, 4, 9, 40, 40))
    sizes = [chance.randint(1, most) for _ in range(chance.randint(least, 6))]
    for cask in range(1, len(sizes)):
        if chance.random() < 0.4:
            sizes[cask] = sizes[chance.randrange(cask)]
    return tuple(sizes)


def some_counts(chance, sizes):
    """Counts of the casks, with empty and full ones more often than by chance."""
    return tuple([chance.choice((0, size, chance.randint(0, size), chance.randint(0, size))) for size in sizes])


def some_stand(chance, sizes, most=60):
    """A stand of at most so many drops, some of them gone."""
    places = []
    for cask, many in enumerate(some_counts(chance, sizes)):
        places.extend([cask] * many)
    places.extend([GONE] * chance.choice((0, 0, 1, 3, 12)))
    chance.shuffle(places)
    return tuple(places[:chance.choice((most, most, most // 2, most // 6))])


def some_many(chance, sizes):
    """A `many` of a deed: none, few, about a cask's size, or a great number."""
    few = (0, 1, chance.randint(0, 4), chance.randint(0, 41))
    return chance.choice(few + (chance.choice(sizes), max(sizes) + 1, GREAT - 1))


def alike_pairs(sizes):
    """The pairs of unlike casks of one size."""
    casks = range(len(sizes))
    return [(one, other) for one in casks for other in casks if one != other and sizes[one] == sizes[other]]


def words_there(sizes, words):
    """Those of the words that have a deed for casks of these sizes."""
    lacking = set()
    if len(sizes) == 1:
        lacking.update(("over", "down"))
    if not alike_pairs(sizes):
        lacking.add("swap")
    return [word for word in words if word not in lacking]


def some_deed(chance, sizes, words=WORDS):
    """A good deed of one of the words."""
    word = chance.choice(words_there(sizes, words))
    if word == "swap":
        return (word,) + chance.choice(alike_pairs(sizes))
    many = some_many(chance, sizes)
    if word in ("tap", "drain"):
        return (word, many, chance.randrange(len(sizes)))
    return (word, many) + tuple(chance.sample(range(len(sizes)), chance.randint(2, len(sizes))))


def some_row(chance, sizes, words=WORDS, most=12):
    """A row of none to so many good deeds."""
    return [some_deed(chance, sizes, words) for _ in range(chance.randint(0, most))]


def some_turning(chance, least=1, most=8):
    """Sizes of casks that are mostly alike, and a row without taps that quite often comes to a long ring."""
    sizes = [chance.choice((1, 2, 3, 9, 40))] * chance.randint(least, 6)
    if chance.random() < 0.4:
        sizes[chance.randrange(len(sizes))] = chance.randint(1, 40)
    sizes = tuple(sizes)
    row = []
    for _ in range(chance.randint(0, most)):
        if alike_pairs(sizes) and chance.random() < 0.6:
            row.append(some_deed(chance, sizes, ("swap",)))
        elif len(sizes) > 1 and chance.random() < 0.5:
            row.append((chance.choice(("over", "down")), chance.choice((1, 2))) + two_of(chance, sizes))
        else:
            row.append(some_deed(chance, sizes, ("over", "down", "drain")))
    return sizes, row


def two_of(chance, sizes):
    """Two unlike casks."""
    return tuple(chance.sample(range(len(sizes)), 2))


def some_load(chance, least=1):
    """Sizes, counts and a row without taps, of all kinds."""
    if chance.random() < 0.3:
        sizes = some_sizes(chance, least)
        return sizes, some_counts(chance, sizes), some_row(chance, sizes, DRY_WORDS)
    sizes, row = some_turning(chance, least)
    return sizes, some_counts(chance, sizes), row


# Loads whose rings have a length of twelve: a family of six and one of four share casks.
TWELVES = (
    (
        (3, 3, 3, 3, 3, 3), (2, 0, 0, 1, 2, 0),
        (("down", 1, 1, 0), ("swap", 1, 4), ("down", 1, 4, 5), ("swap", 0, 3), ("swap", 1, 3), ("swap", 0, 5),
         ("down", 1, 4, 3), ("swap", 2, 4), ("down", 1, 1, 3), ("swap", 2, 5), ("swap", 5, 4)),
    ),
    (
        (3, 3, 3, 3, 3, 3), (3, 0, 1, 2, 0, 3),
        (("over", 1, 2, 3), ("swap", 4, 5), ("over", 1, 2, 0), ("swap", 3, 2), ("swap", 3, 1), ("swap", 3, 0),
         ("swap", 0, 1), ("swap", 2, 4), ("swap", 5, 1), ("swap", 0, 4), ("swap", 3, 4)),
    ),
    (
        (2, 2, 2, 2, 2, 2), (2, 0, 2, 2, 0, 1),
        (("swap", 0, 4), ("swap", 2, 3), ("swap", 4, 3), ("swap", 0, 4), ("swap", 2, 1), ("swap", 2, 5),
         ("swap", 2, 1), ("over", 1, 5, 2), ("swap", 1, 4), ("swap", 0, 3), ("over", 1, 2, 1), ("swap", 4, 2),
         ("swap", 0, 5)),
    ),
)
