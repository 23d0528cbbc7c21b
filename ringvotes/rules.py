"""Rules that compare sums, vote, tell a value or doubt, and their outcomes."""

from ringvotes.checks import check_meters, check_net, is_bound
from ringvotes.errors import InvalidNumber, InvalidRows, InvalidText, NotARule, NotASum
from ringvotes.limits import MOST_FAULTS, MOST_ROWS, MOST_SUMS
from ringvotes.runs import DOUBT, IF, TELL, TELLS, TESTS, VOTE, first_event, next_event
from ringvotes.sums import Sum
from ringvotes.worlds import by_name, check_readings, silent_names, value_in


class Rule:
    """One to eight rows, the last one `tell` or `doubt`."""

    def __init__(self, rows):
        self._steps = _steps_in(rows)
        self._rows = rows

    @classmethod
    def read(cls, text):
        """The rule with this text."""
        if not isinstance(text, str):
            raise InvalidText(text)
        try:
            return cls(tuple(text.split("\n")))
        except InvalidRows:
            raise InvalidText(text) from None

    @classmethod
    def voting(cls, against, *totals):
        """The rule that lets these sums vote, and doubts if none of them has at most `against` against it."""
        if not is_bound(against):
            raise InvalidNumber(against)
        for total in totals:
            if not isinstance(total, Sum):
                raise NotASum(total)
        row = ", ".join([str(total) for total in totals])
        return cls((f"{VOTE} {against}: {row}", DOUBT))

    @property
    def rows(self):
        """The rows, as they were passed."""
        return self._rows

    @property
    def steps(self):
        """The rows as steps of a run."""
        return self._steps

    @property
    def meters(self):
        """The ascending names of the meters in the sums of the rows."""
        return tuple(sorted({term[0] for step in self._steps for total in step[2] for term in total.terms}))

    def __len__(self):
        return len(self._rows)

    def __str__(self):
        return "\n".join(self._rows)

    def __eq__(self, other):
        return isinstance(other, Rule) and self._rows == other._rows


def outcome(net, rule, readings):
    """What a rule tells for these readings, None if it doubts."""
    check_net(net)
    check_rule(net, rule)
    check_readings(net, readings)
    shown = by_name(net, readings)
    silent = silent_names(net, readings)
    event = first_event(rule.steps, silent)
    while event[0] == TESTS:
        one, two = event[1]
        equal = value_in(shown, one) == value_in(shown, two)
        event = next_event(rule.steps, silent, event, equal)
    return value_in(shown, event[1][0]) if event[0] == TELLS else None


def check_rule(net, rule):
    """Raises NotARule if this is no Rule, UnknownName if it has a meter that the net does not have."""
    if not isinstance(rule, Rule):
        raise NotARule(rule)
    check_meters(net, rule.meters)


def _steps_in(rows):
    """The rows of a rule as steps."""
    if not isinstance(rows, tuple) or not rows:
        raise InvalidRows(None)
    steps = []
    for index, row in enumerate(rows):
        step = _read_row(row, index, len(rows))
        if step is None or index >= MOST_ROWS:
            raise InvalidRows(index)
        steps.append(step)
    if steps[-1][0] not in (TELL, DOUBT):
        raise InvalidRows(len(rows) - 1)
    return tuple(steps)


def _read_row(row, index, many):
    """The step for a row with this index among so many rows, None if it is no row."""
    if not isinstance(row, str):
        return None
    if row == DOUBT:
        return (DOUBT, 0, ())
    kind, _, rest = row.partition(" ")
    if kind == TELL:
        return _step(TELL, 0, [rest])
    if kind == VOTE:
        return _read_vote(rest)
    if kind == IF:
        return _read_test(rest, index + 1, min(many, MOST_ROWS) - 1)
    return None


def _read_vote(text):
    """The step for a row with this text behind `vote`, None if it is no row."""
    word, _, listed = text.partition(": ")
    texts = listed.split(", ")
    return _step(VOTE, _read_digit(word, 0, MOST_FAULTS), texts) if len(texts) <= MOST_SUMS else None


def _read_test(text, least, most):
    """The step for a row with this text behind `if` that goes on at a row within these bounds, None if it is no row."""
    test, _, word = text.rpartition(" go ")
    texts = test.split(" == ")
    return _step(IF, _read_digit(word, least, most), texts) if len(texts) == 2 else None


def _step(kind, number, texts):
    """The step with the sums that have these texts, None if one is no text of a sum, or if the number is None."""
    if number is None:
        return None
    try:
        return (kind, number, tuple([Sum.read(text) for text in texts]))
    except InvalidText:
        return None


def _read_digit(word, least, most):
    """The integer between these bounds that is written as this word, None if there is none."""
    for number in range(least, most + 1):
        if word == str(number):
            return number
    return None
