"""Books: nets and rules under names, and wishes that hold after each change."""

from ringvotes.basics import is_name, is_number
from ringvotes.checks import are_faults
from ringvotes.compared import same_readings
from ringvotes.errors import (
    BadName,
    BadValue,
    Broken,
    InUse,
    InvalidIndex,
    InvalidName,
    InvalidWish,
    NotAnEntry,
    UnknownName,
)
from ringvotes.histories import History, LastingTrial
from ringvotes.judging import is_right
from ringvotes.nets import Net
from ringvotes.rules import Rule
from ringvotes.strengths import can_tell

TELLS = "tells"
RIGHT = "right"
SAME = "same"


class Book:
    """Nets and rules under names, with wishes; changes can be taken back."""

    def __init__(self):
        # A state is a pair: a dict of the values by their names, which is never changed, and the tuple of the wishes.
        self._history = History(({}, ()))

    @property
    def names(self):
        """The ascending names of the values."""
        return tuple(sorted(list(self._history.states[-1][0])))

    @property
    def wishes(self):
        """The wishes, as they were passed."""
        return self._history.states[-1][1]

    @property
    def changes(self):
        """How many changes can be taken back."""
        return len(self._history.states) - 1

    def wish(self, wish):
        """Takes a wish more, behind the others."""
        values, wishes = self._history.states[-1]
        if not _is_wish(wish):
            raise InvalidWish(wish)
        for name in _names_in(wish):
            if name not in values:
                raise UnknownName(name)
        if not _holds(values, wish):
            raise Broken(len(wishes))
        self._history.change((values, wishes + (wish,)))

    def lift(self, index):
        """Takes the wish with this index away."""
        values, wishes = self._history.states[-1]
        if not is_number(index) or not 0 <= index < len(wishes):
            raise InvalidIndex(index)
        self._history.change((values, wishes[:index] + wishes[index + 1:]))

    def remove(self, name):
        """Takes the value with this name away."""
        values, wishes = self._history.states[-1]
        if name not in self:
            raise UnknownName(name)
        for index, wish in enumerate(wishes):
            if name in _names_in(wish):
                raise InUse(index)
        self._history.change(({other: values[other] for other in values if other != name}, wishes))

    def undo(self):
        """Takes back the last change that has not been taken back."""
        self._history.undo()

    def trial(self):
        """For a `with` statement: if its block ends with an exception, the book is as it was when the block began."""
        return LastingTrial(self, self._history)

    def tried(self, action):
        """What a function returns that is called with the book within a trial."""
        with self.trial() as book:
            return action(book)

    def __setitem__(self, at, worth):
        values, wishes = self._history.states[-1]
        if not is_name(at):
            raise InvalidName(at)
        if not isinstance(worth, (Net, Rule)):
            raise NotAnEntry(worth)
        changed = {**values, at: worth}
        for index, wish in enumerate(wishes):
            # All other wishes go on to hold.
            if at in _names_in(wish) and not _holds(changed, wish):
                raise Broken(index)
        self._history.change((changed, wishes))

    def __getitem__(self, at):
        if at not in self:
            raise UnknownName(at)
        return self._history.states[-1][0][at]

    def __iter__(self):
        raise TypeError("a book is not iterated over")

    def __contains__(self, x):
        return is_name(x) and x in self._history.states[-1][0]

    def __len__(self):
        return len(self._history.states[-1][0])

    def __bool__(self):
        # Without this, an empty book would be false because of its length.
        return True

    def __eq__(self, other):
        return self is other


def _is_wish(value):
    """Whether a value, whatever it is, is a tuple of one of the three forms of wishes."""
    if not isinstance(value, tuple) or not value or not isinstance(value[0], str):
        return False
    if value[0] == TELLS and len(value) == 4:
        return _all_names(value[1:3]) and are_faults(value[3])
    if value[0] == RIGHT and len(value) == 5:
        return _all_names(value[1:4]) and are_faults(value[4])
    return value[0] == SAME and len(value) == 3 and _all_names(value[1:3])


def _all_names(values):
    """Whether these are names only."""
    return all([is_name(value) for value in values])


def _names_in(wish):
    """The names in the book for which a wish stands: A, or A and B."""
    if wish[0] == TELLS:
        return (wish[1],)
    return (wish[1], wish[3]) if wish[0] == RIGHT else (wish[1], wish[2])


def _holds(values, wish):
    """Whether a wish can be judged and holds; raises TooMany if there is too much to judge."""
    one, two = values[_names_in(wish)[0]], values[_names_in(wish)[-1]]
    try:
        if wish[0] == TELLS:
            return can_tell(one, wish[2], wish[3])
        if wish[0] == RIGHT:
            return is_right(one, wish[2], two, wish[4])
        return same_readings(one, two)
    except (BadValue, BadName):
        # A name stands for a value of the other kind, or one of these lacks a pipe or a meter.
        return False
