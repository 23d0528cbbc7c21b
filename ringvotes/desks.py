"""Desks: readings of a net as they come in."""

from ringvotes.checks import check_net
from ringvotes.errors import InvalidReading, UnknownName
from ringvotes.explaining import explanations, sure
from ringvotes.histories import History, PassingTrial
from ringvotes.rules import outcome
from ringvotes.worlds import by_name, is_reading


class Desk:
    """Readings of a net that change, and whose changes can be taken back."""

    def __init__(self, net):
        check_net(net)
        self._net = net
        self._history = History(tuple([0 if part.sealed else None for part in net.meters]))

    @property
    def net(self):
        """The net."""
        return self._net

    @property
    def readings(self):
        """The readings, in the order of the meters."""
        return self._history.states[-1]

    @property
    def changes(self):
        """How many changes can be taken back."""
        return len(self._history.states) - 1

    def note(self, **readings):
        """Sets the readings of the meters with these names, as one change."""
        self._history.change(_noted(self._net, self.readings, list(readings.items())))

    def undo(self):
        """Takes back the last change that has not been taken back."""
        self._history.undo()

    def outcome(self, rule):
        """What a rule tells for the readings, None if it doubts."""
        return outcome(self._net, rule, self.readings)

    def explanations(self, most):
        """All least sets of at most so many meters that explain the readings."""
        return explanations(self._net, self.readings, most)

    def sure(self, pipe, most=0):
        """The flow of a pipe if it is the same in all worlds with the readings and so many wrong meters."""
        return sure(self._net, self.readings, pipe, most)

    def trial(self):
        """For a `with` statement: when its block ends, the desk is as it was when the block began."""
        return PassingTrial(self, self._history)

    def tried(self, action):
        """What a function returns that is called with the desk within a trial."""
        with self.trial() as desk:
            return action(desk)

    def __setitem__(self, at, worth):
        self._history.change(_noted(self._net, self.readings, [(at, worth)]))

    def __getitem__(self, at):
        if at not in self._net:
            raise UnknownName(at)
        return by_name(self._net, self.readings)[at]

    def __iter__(self):
        raise TypeError("a desk is not iterated over")

    def __contains__(self, x):
        return x in self._net and self[x] is not None

    def __len__(self):
        return len([seen for seen in self.readings if seen is not None])

    def __bool__(self):
        # Without this, a desk of silent meters would be false because of its length.
        return True

    def __eq__(self, other):
        return self is other


def _noted(net, readings, news):
    """The readings, but for the meters in these pairs of a name and a reading what stands there."""
    shown = by_name(net, readings)
    for name, seen in news:
        if not is_reading(net.meter(name), seen):
            raise InvalidReading(seen)
        shown[name] = seen
    return tuple([shown[part.name] for part in net.meters])
