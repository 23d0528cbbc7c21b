"""Searches through all runs of rules in a space of worlds."""

from ringvotes.knowing import Known, difference
from ringvotes.runs import TELLS, TESTS, first_event, next_event


class Search:
    """Runs of the steps of a first rule at all points of a space, and behind each of them runs of a second one's.

    The attribute `come_to` has the rows to which the runs of the first rule have come.
    """

    def __init__(self, space, programs):
        self._space = space
        self._programs = programs
        self.come_to = {}

    def parting(self, strict):
        """A world in which the outcomes differ, None if there is none; doubt differs from integers only if `strict`."""
        waiting = [self._begun((), Known(self._space.many))]
        while waiting:
            told, event, known = waiting.pop()
            if event[0] == TESTS:
                waiting.extend(self._behind_test(told, event, known))
                continue
            told = told + ((event[1][0] if event[0] == TELLS else None),)
            if len(told) < len(self._programs):
                waiting.append(self._begun(told, known))
                continue
            point = _parting_point(told, known, strict)
            if point is not None:
                return self._space.world_at(point)
        return None

    def _begun(self, told, known):
        """The state at the beginning of the next rule."""
        return self._state(told, first_event(self._programs[len(told)], ()), known)

    def _behind_test(self, told, event, known):
        """The states behind a test, one for each answer that it may have."""
        line = known.reduced(difference(event[1]))
        if known.is_zero(line):
            return [self._answered(told, event, True, known)]
        if known.decided_by(line) is not None:
            return [self._answered(told, event, False, known)]
        return [
            self._answered(told, event, False, known.with_unlike(line)),
            self._answered(told, event, True, known.with_zero(line)),
        ]

    def _answered(self, told, event, equal, known):
        """The state behind this answer of a test."""
        return self._state(told, next_event(self._programs[len(told)], (), event, equal), known)

    def _state(self, told, event, known):
        """What a run goes on with: the outcomes of the rules before, its event, and what is known."""
        if told == ():
            for row in event[3]:
                self.come_to[row] = True
        return (told, event, known)


def _parting_point(told, known, strict):
    """A point that fits what is known and at which these two outcomes differ, None if there is none."""
    if len(told) < 2 or told == (None, None):
        return None
    if None in told:
        return known.point_beside(None) if strict else None
    line = known.reduced(difference(told))
    return None if known.is_zero(line) else known.point_beside(line)
