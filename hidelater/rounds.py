"""Rounds: rows of steps under names, which may call rounds that were written ahead."""

from hidelater.casks import look_sizes
from hidelater.deeds import fault_place
from hidelater.errors import BadName, BadRow, InUse, NoRound, Taken, TooLong, TooMany

MOST_ROUNDS = 12
MOST_FLAT = 200
MOST_CALLS = 9
MOST_LETTERS = 8
LETTERS = "abcdefghijklmnopqrstuvwxyz"


class Book:
    """The rounds for casks of told sizes, in the order in which they were written."""

    def __init__(self, sizes):
        look_sizes(sizes)
        self.held_sizes = sizes
        self.written = {}
        # A round that is called can't be let go or changed, so what it is laid out holds as long as it stands.
        self.laid = {}

    def write(self, name, steps):
        """Write a round."""
        self.look_fresh(name)
        self.look_steps(steps)
        if sum([self.count_deeds(step) for step in steps]) > MOST_FLAT:
            raise TooLong(MOST_FLAT)
        self.laid[name] = self.lay_out(steps)
        self.written[name] = tuple(steps)

    def drop(self, name):
        """Let go a round that no other one calls."""
        users = self.callers(name)
        if len(users) > 0:
            raise InUse(users[0])
        del self.written[name]
        del self.laid[name]

    def steps(self, name):
        """The list of the steps of a round."""
        self.look_written(name)
        return list(self.written[name])

    def flat(self, name):
        """The list of the deeds of a round laid out."""
        self.look_written(name)
        return list(self.laid[name])

    def callers(self, name):
        """The list of the names of the rounds that call this one themselves."""
        self.look_written(name)
        return [user for user in self.written if calls(self.written[user], name)]

    def names(self):
        """The list of the names of all rounds."""
        return list(self.written)

    def sizes(self):
        """The sizes of the casks."""
        return self.held_sizes

    def twin(self):
        """A Book like this one that goes its own way."""
        other = Book(self.held_sizes)
        other.written = dict(self.written)
        other.laid = dict(self.laid)
        return other

    def look_fresh(self, name):
        """Refuse a name under which no round can be written now."""
        if not is_name(name):
            raise BadName()
        if name in self.written:
            raise Taken(name)
        if len(self.written) >= MOST_ROUNDS:
            raise TooMany(MOST_ROUNDS)

    def look_written(self, name):
        """Refuse a name of no round."""
        if name not in self.written:
            raise NoRound(name)

    def look_steps(self, steps):
        """Refuse a row of which one is no step, by the first such one."""
        for number, step in enumerate(steps):
            place = step_fault(self.held_sizes, step)
            if place is not None:
                raise BadRow(number, place)
            if step[0] == "call":
                self.look_written(step[1])

    def count_deeds(self, step):
        """How many deeds a good step is laid out."""
        if step[0] == "call":
            return len(self.laid[step[1]]) * step[2]
        return 1

    def lay_out(self, steps):
        """The tuple of the deeds of good steps, those of called rounds in their calls' places."""
        deeds = []
        for step in steps:
            if step[0] == "call":
                deeds.extend(self.laid[step[1]] * step[2])
            else:
                deeds.append(step)
        return tuple(deeds)

    def __len__(self):
        return len(self.written)

    def __eq__(self, other):
        if not isinstance(other, Book) or self.held_sizes != other.held_sizes:
            return False
        # Dicts of another order are equal, rounds written in another order aren't.
        return list(self.written.items()) == list(other.written.items())

    def __repr__(self):
        return f"Book({len(self.written)} rounds)"


def is_name(name):
    """Whether a text can be the name of a round."""
    return 1 <= len(name) <= MOST_LETTERS and all([sign in LETTERS for sign in name])


def step_fault(sizes, step):
    """The `place` with which a step is refused, or None; a call's name isn't looked at."""
    if len(step) == 0 or step[0] != "call":
        return fault_place(sizes, step)
    if len(step) != 3:
        return -1
    if not 0 <= step[2] <= MOST_CALLS:
        return 2
    return None


def calls(steps, name):
    """Whether one of the steps calls a round of that name, also no times."""
    return any([step[0] == "call" and step[1] == name for step in steps])
