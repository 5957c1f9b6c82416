"""All refusals of the program."""


class HideError(ValueError):
    """What was handed in can't be taken."""


class BadSizes(HideError):
    """`cask` is -1 for too few or too many sizes, else the first cask at fault."""

    def __init__(self, cask):
        self.word = "bad sizes"
        self.cask = cask


class BadCounts(HideError):
    """`cask` is -1 for another count of numbers than of casks, else the first cask at fault."""

    def __init__(self, cask):
        self.word = "bad counts"
        self.cask = cask


class BadStand(HideError):
    """`rank` is -1 for too many drops, else the first rank at fault."""

    def __init__(self, rank):
        self.word = "bad stand"
        self.rank = rank


class BadDeed(HideError):
    """`place` is -1 for too few or too many things, else the first thing at fault."""

    def __init__(self, place):
        self.word = "bad deed"
        self.place = place


class BadRow(HideError):
    """`step` is the first deed or step of a row that is none, `place` is as in BadDeed."""

    def __init__(self, step, place):
        self.word = "bad row"
        self.step = step
        self.place = place


class BadTimes(HideError):
    """A row can't be done so many times."""

    def __init__(self):
        self.word = "bad times"


class BadName(HideError):
    """A round can't have such a name."""

    def __init__(self):
        self.word = "bad name"


class BadText(HideError):
    """`row` is the first row of a text at fault."""

    def __init__(self, row):
        self.word = "bad text"
        self.row = row


class Taken(HideError):
    """There is a round of that name already."""

    def __init__(self, name):
        self.word = "taken"
        self.name = name


class InUse(HideError):
    """`name` is the first written round that calls the one to be let go."""

    def __init__(self, name):
        self.word = "in use"
        self.name = name


class Tapped(HideError):
    """`step` is the first tap of a row that may have none."""

    def __init__(self, step):
        self.word = "tapped"
        self.step = step


class TooLong(HideError):
    """A round laid out has more than `most` deeds."""

    def __init__(self, most):
        self.word = "too long"
        self.most = most


class TooMany(HideError):
    """There would be more than `most` drops or rounds."""

    def __init__(self, most):
        self.word = "too many"
        self.most = most


class Unlike(HideError):
    """Two lofts have other sizes."""

    def __init__(self):
        self.word = "unlike"


class Missing(LookupError):
    """What was asked for isn't there."""


class NoRound(Missing):
    """There is no round of that name."""

    def __init__(self, name):
        self.word = "no round"
        self.name = name


class NoDrop(Missing):
    """There is no drop of that rank, or there aren't so many."""

    def __init__(self, rank):
        self.word = "no drop"
        self.rank = rank


class NoCask(Missing):
    """There is no cask of that number."""

    def __init__(self, cask):
        self.word = "no cask"
        self.cask = cask


class NothingLeft(IndexError):
    """No step is left to take back or to do again."""

    def __init__(self):
        self.word = "nothing left"
