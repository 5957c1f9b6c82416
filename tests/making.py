"""Good sizes, counts, stands and deeds for the tests, made from told seeds, so the same ones in every run."""

import random

from hidelater.casks import GONE
from hidelater.deeds import GREAT

WORDS = ("over", "down", "swap", "tap", "drain")
DRY_WORDS = ("over", "down", "swap", "drain")


def chances(seed, many):
    """So many sources of chance, each with its own seed."""
    for number in range(many):
        yield random.Random(seed * 100003 + number)


def some_sizes(chance, least=1):
    """One to six sizes, small or to forty, often some alike so that there are swaps."""
    most = chance.choice((2, 4, 9, 40, 40))
    sizes = [chance.randint(1, most) for _ in range(chance.randint(least, 6))]
    for cask in range(1, len(sizes)):
        if chance.random() < 0.4:
            sizes[cask] = sizes[chance.randrange(cask)]
    return tuple(sizes)


def some_counts(chance, sizes):
    """Counts of the casks, with empty and full ones more often than by chance."""
    return tuple([chance.choice((0, size, chance.randint(0, size), chance.randint(0, size))) for size in sizes])


def some_stand(chance, sizes, most=60):
    """A stand of at most so many drops, some of them gone."""
    places = []
    for cask, many in enumerate(some_counts(chance, sizes)):
        places.extend([cask] * many)
    places.extend([GONE] * chance.choice((0, 0, 1, 3, 12)))
    chance.shuffle(places)
    return tuple(places[:chance.choice((most, most, most // 2, most // 6))])


def some_many(chance, sizes):
    """A `many` of a deed: none, few, about a cask's size, or a great number."""
    few = (0, 1, chance.randint(0, 4), chance.randint(0, 41))
    return chance.choice(few + (chance.choice(sizes), max(sizes) + 1, GREAT - 1))


def alike_pairs(sizes):
    """The pairs of unlike casks of one size."""
    casks = range(len(sizes))
    return [(one, other) for one in casks for other in casks if one != other and sizes[one] == sizes[other]]


def words_there(sizes, words):
    """Those of the words that have a deed for casks of these sizes."""
    lacking = set()
    if len(sizes) == 1:
        lacking.update(("over", "down"))
    if not alike_pairs(sizes):
        lacking.add("swap")
    return [word for word in words if word not in lacking]


def some_deed(chance, sizes, words=WORDS):
    """A good deed of one of the words."""
    word = chance.choice(words_there(sizes, words))
    if word == "swap":
        return (word,) + chance.choice(alike_pairs(sizes))
    many = some_many(chance, sizes)
    if word in ("tap", "drain"):
        return (word, many, chance.randrange(len(sizes)))
    return (word, many) + tuple(chance.sample(range(len(sizes)), chance.randint(2, len(sizes))))


def some_row(chance, sizes, words=WORDS, most=12):
    """A row of none to so many good deeds."""
    return [some_deed(chance, sizes, words) for _ in range(chance.randint(0, most))]
