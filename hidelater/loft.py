"""Lofts: casks with drops and rounds, kept through many steps that can be taken back and done again."""

from hidelater.casks import GONE, apart, counts_of, hidden, look_cask, look_stand
from hidelater.deeds import look_deed, look_dry, look_row
from hidelater.errors import NoDrop, NothingLeft, Unlike
from hidelater.far import far_behind, look_times, ring
from hidelater.ranks import ranks_in, stand_behind_row
from hidelater.rounds import Book
from hidelater.tables import joined, table_behind
from hidelater.texts import page_rows


class Moment:
    """What a loft has between two steps.

    None is changed once it is made, nor is its Book: lofts and their twins share them.
    """

    def __init__(self, places, book, table):
        self.places = places
        self.book = book
        # The table of all steps up to here.
        self.table = table


class Loft:
    """Casks of told sizes, a stand and rounds, with all steps that can be taken back or done again."""

    def __init__(self, sizes, *, stand=()):
        look_stand(sizes, stand)
        self.held_sizes = sizes
        # One moment ahead of the first step and one behind each, also behind those that were taken back.
        self.moments = [first_moment(sizes, stand, Book(sizes))]
        self.known = []
        self.standing = 0

    def do(self, deed):
        """Do a deed."""
        look_deed(self.held_sizes, deed)
        self.pour(("do", (deed,)), (deed,), 1)

    def all_of(self, deeds):
        """Do several deeds, all or none, as one step."""
        look_row(self.held_sizes, deeds)
        self.pour(("do", tuple(deeds)), deeds, 1)

    def run(self, name, *, times=1):
        """Do a round so many times."""
        deeds = self.moment().book.flat(name)
        look_times(times)
        if times > 1:
            look_dry(deeds)
        self.pour(("run", name, times), deeds, times)

    def write(self, name, steps):
        """Write a round."""
        book = self.moment().book.twin()
        book.write(name, steps)
        self.change_rounds(("write", name, tuple(steps)), book)

    def drop(self, name):
        """Let go a round that no other one calls."""
        book = self.moment().book.twin()
        book.drop(name)
        self.change_rounds(("drop", name), book)

    def undo(self):
        """Take back the last step that stands, and tell it."""
        if self.standing == 0:
            raise NothingLeft()
        self.standing -= 1
        return self.known[self.standing]

    def redo(self):
        """Do again the step that was taken back last, and tell it."""
        if self.standing == len(self.known):
            raise NothingLeft()
        self.standing += 1
        return self.known[self.standing - 1]

    def steps(self):
        """The list of the steps that stand."""
        return self.known[:self.standing]

    def left(self):
        """The pair of how many steps can be taken back, and done again."""
        return self.standing, len(self.known) - self.standing

    def sizes(self):
        """The sizes of the casks."""
        return self.held_sizes

    def stand(self):
        """Where each drop is."""
        return self.moment().places

    def counts(self):
        """How many drops are in each cask."""
        return counts_of(self.held_sizes, self.stand())

    def rounds(self):
        """A Book of the rounds that goes its own way."""
        return self.moment().book.twin()

    def drops(self):
        """How many drops there have been in all."""
        return len(self.stand())

    def where(self, rank):
        """The cask in which a drop is, or GONE."""
        self.look_drop(rank)
        return self.stand()[rank]

    def ranks(self, cask):
        """The rising list of the ranks of the drops in a cask."""
        look_cask(self.held_sizes, cask)
        return ranks_in(self.stand(), cask)

    def gone(self):
        """The rising list of the ranks of the drops that are gone."""
        return ranks_in(self.stand(), GONE)

    def path(self, rank):
        """The list of where a drop was ahead of all steps that stand and behind each, None where it hadn't come."""
        self.look_drop(rank)
        stands = [moment.places for moment in self.moments[:self.standing + 1]]
        return [places[rank] if rank < len(places) else None for places in stands]

    def one_more(self):
        """The table of all steps that stand."""
        return self.moment().table

    def ring(self, name):
        """The ring of the stand by a round."""
        return ring(self.held_sizes, self.stand(), self.moment().book.flat(name))

    def apart(self, other):
        """How far its counts are from those of another loft."""
        if self.held_sizes != other.held_sizes:
            raise Unlike()
        return apart(self.counts(), other.counts())

    def hidden(self, many):
        """A Loft of the first so many drops alone, with nothing to take back."""
        return begun(self.held_sizes, hidden(self.stand(), many), self.moment().book)

    def twin(self):
        """A Loft like this one that goes its own way."""
        other = Loft(self.held_sizes)
        other.moments = list(self.moments)
        other.known = list(self.known)
        other.standing = self.standing
        return other

    def moment(self):
        """What there is now."""
        return self.moments[self.standing]

    def look_drop(self, rank):
        """Refuse what is the rank of no drop."""
        if not 0 <= rank < self.drops():
            raise NoDrop(rank)

    def pour(self, step, deeds, times):
        """Take the step that does good deeds so many times, unless there would be too many drops."""
        ahead = self.moment()
        places = far_behind(stand_behind_row, self.held_sizes, ahead.places, deeds, times)
        table = joined(ahead.table, table_behind(self.held_sizes, self.counts(), deeds, times))
        self.take(step, Moment(places, ahead.book, table))

    def change_rounds(self, step, book):
        """Take the step behind which there are other rounds."""
        ahead = self.moment()
        self.take(step, Moment(ahead.places, book, ahead.table))

    def take(self, step, moment):
        """Put a step behind those that stand; those that were taken back can't be done again then."""
        self.known = self.steps() + [step]
        self.moments = self.moments[:self.standing + 1] + [moment]
        self.standing += 1

    def __len__(self):
        return len([place for place in self.stand() if place != GONE])

    def __eq__(self, other):
        if not isinstance(other, Loft):
            return False
        return self.stand() == other.stand() and self.moment().book == other.moment().book

    def __str__(self):
        return "".join(page_rows(self.held_sizes, self.stand(), self.moment().book))

    def __repr__(self):
        return f"Loft({len(self.held_sizes)} casks, {len(self)} drops)"


def first_moment(sizes, stand, book):
    """What a loft has ahead of its first step."""
    return Moment(stand, book, table_behind(sizes, counts_of(sizes, stand), (), 0))


def begun(sizes, stand, book):
    """A Loft with a stand and rounds and nothing to take back; the Book isn't changed any more from then on."""
    loft = Loft(sizes)
    loft.moments = [first_moment(sizes, stand, book)]
    return loft
