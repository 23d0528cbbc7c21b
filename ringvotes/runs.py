"""Rows of rules as steps, and the events of a run: what it tests, tells or doubts.

A step is a tuple (kind, number, sums): the number is the row to go to or the number of tests against a sum.
An event is a tuple (kind, sums, place, rows): the place is what `next_event` needs to go on behind a test, the rows
are those to which the run has come since the event before.
"""

IF = "if"
VOTE = "vote"
TELL = "tell"
DOUBT = "doubt"

TESTS = "tests"
TELLS = "tells"
DOUBTS = "doubts"


def heard_steps(steps, silent):
    """Steps without silent sums that act as these do while the meters with these names are silent.

    For a run of them no meter needs to be silent, so that anything may stand in the place of their sums.
    """
    return tuple([_heard_step(step, silent) for step in steps])


def first_event(steps, silent):
    """The first event of a run in which the meters with these names are silent."""
    return _event_from(steps, silent, 0)


def next_event(steps, silent, event, equal):
    """The event behind a test that has said "equal" or not."""
    row, at, by, unlike = event[2]
    kind, number, _ = steps[row]
    if kind == IF:
        return _event_from(steps, silent, number if equal else row + 1)
    return _event_in_vote(steps, silent, (row, at, by + 1, unlike if equal else unlike + 1))


def _event_from(steps, silent, row, passed=()):
    """The first event of a run that goes on at this row, having passed others."""
    rows = passed + (row,)
    kind, _, totals = steps[row]
    heard = _heard(totals, silent)
    if kind == VOTE:
        return _event_in_vote(steps, silent, (row, 0, 0, 0), rows)
    if kind == TELL and heard:
        return (TELLS, heard, None, rows)
    if kind in (TELL, DOUBT):
        return (DOUBTS, (), None, rows)
    if len(heard) == len(totals):
        return (TESTS, heard, (row, 0, 0, 0), rows)
    return _event_from(steps, silent, row + 1, rows)


def _event_in_vote(steps, silent, place, passed=()):
    """The first event of a run at this place of a `vote` row.

    The place is the row, the index of a sum among those that are not silent, the index of the one it is tested
    against, and how many tests of it have said "not equal".
    """
    row, at, by, unlike = place
    _, most, totals = steps[row]
    heard = _heard(totals, silent)
    if unlike > most:
        at, by, unlike = at + 1, 0, 0
    if at == len(heard):
        return _event_from(steps, silent, row + 1, passed)
    if by == at:
        by += 1
    if by < len(heard):
        return (TESTS, (heard[at], heard[by]), (row, at, by, unlike), passed)
    return (TELLS, (heard[at],), None, passed)


def _heard_step(step, silent):
    """The step without silent sums that acts as this one does."""
    kind, number, totals = step
    heard = _heard(totals, silent)
    if kind == IF and len(heard) < len(totals):
        # Nobody votes: the run goes on at the next row.
        return (VOTE, 0, ())
    if kind == TELL and not heard:
        return (DOUBT, 0, ())
    return (kind, number, heard)


def _heard(totals, silent):
    """Those of the sums that are not silent."""
    if not silent:
        return totals
    return tuple([total for total in totals if not any([name in silent for name, number in total.terms])])
