"""Rows of rules as steps, and the events of a run: what it tests, tells or doubts.

A step is a tuple (kind, number, sums): the number is the row to go to or the number of tests against a sum.
An event is a tuple (kind, sums, place): the place is what `next_event` needs to go on behind a test.
"""

IF = "if"
VOTE = "vote"
TELL = "tell"
DOUBT = "doubt"

TESTS = "tests"
TELLS = "tells"
DOUBTS = "doubts"


def first_event(steps, silent):
    """The first event of a run in which the meters with these names are silent."""
    return _event_from(steps, silent, 0)


def next_event(steps, silent, event, equal):
    """The event behind a test that has said "equal" or not."""
    row, at, by, unlike = event[2]
    kind, number, _ = steps[row]
    if kind == IF:
        return _event_from(steps, silent, number if equal else row + 1)
    return _event_in_vote(steps, silent, (row, at, by + 1, unlike if equal else unlike + 1))


def _event_from(steps, silent, row):
    """The first event of a run that goes on at this row."""
    kind, _, totals = steps[row]
    heard = _heard(totals, silent)
    if kind == VOTE:
        return _event_in_vote(steps, silent, (row, 0, 0, 0))
    if kind == TELL and heard:
        return (TELLS, heard, None)
    if kind in (TELL, DOUBT):
        return (DOUBTS, (), None)
    if len(heard) == len(totals):
        return (TESTS, heard, (row, 0, 0, 0))
    return _event_from(steps, silent, row + 1)


def _event_in_vote(steps, silent, place):
    """The first event of a run at this place of a `vote` row.

    The place is the row, the index of a sum among those that are not silent, the index of the one it is tested
    against, and how many tests of it have said "not equal".
    """
    row, at, by, unlike = place
    _, most, totals = steps[row]
    heard = _heard(totals, silent)
    if unlike > most:
        at, by, unlike = at + 1, 0, 0
    if at == len(heard):
        return _event_from(steps, silent, row + 1)
    if by == at:
        by += 1
    if by < len(heard):
        return (TESTS, (heard[at], heard[by]), (row, at, by, unlike))
    return (TELLS, (heard[at],), None)


def _heard(totals, silent):
    """Those of the sums that are not silent."""
    return tuple([total for total in totals if not any([name in silent for name, number in total.terms])])
