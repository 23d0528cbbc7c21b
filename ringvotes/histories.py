"""The states of desks and books, and trials, behind which these are as they were before."""

from ringvotes.errors import NothingToUndo


class History:
    """All states that something has had, less those that have been taken back.

    The last one of `states` is the present one; each of the others can be gone back to.
    """

    def __init__(self, state):
        # A tuple, so that a trial can keep it while the history goes on.
        self.states = (state,)

    def change(self, state):
        """Goes on to another state."""
        self.states = self.states + (state,)

    def undo(self):
        """Goes back to the state before."""
        if len(self.states) == 1:
            raise NothingToUndo()
        self.states = self.states[:-1]


class Mark:
    """The states when a block began, and the mark of the block around it."""

    def __init__(self, states, outer):
        self.states = states
        self.outer = outer


class PassingTrial:
    """For a `with` statement: when its block ends, the history is as it was when the block began."""

    def __init__(self, holder, history):
        self._holder = holder
        self._history = history
        self._mark = None

    def __enter__(self):
        # The same trial may be begun again within itself.
        self._mark = Mark(self._history.states, self._mark)
        return self._holder

    def __exit__(self, kind, value, trace):
        self._history.states = self._mark.states
        self._mark = self._mark.outer


class LastingTrial:
    """For a `with` statement: if its block ends with an exception, the history is as it was when the block began."""

    def __init__(self, holder, history):
        self._holder = holder
        self._history = history
        self._mark = None

    def __enter__(self):
        self._mark = Mark(self._history.states, self._mark)
        return self._holder

    def __exit__(self, kind, value, trace):
        if kind is not None:
            self._history.states = self._mark.states
        self._mark = self._mark.outer
