"""Checks of trees that show that a rule is right in all worlds in which given meters may be wrong or are silent."""

from ringvotes.basics import is_number
from ringvotes.forms import form_at, form_of
from ringvotes.runs import DOUBTS, TELLS, TESTS, first_event, heard_steps, next_event


class Following:
    """Follows the runs of a rule in which the meters of `silent` are silent and those of `wrong` may be wrong."""

    def __init__(self, net, pipe, rule, wrong, silent, strict):
        places = net.places
        self._ends = [(places.index(part.start), places.index(part.end)) for part in net.pipes]
        self._places = len(places)
        self._pipe = form_at(net, wrong, pipe)
        self._steps = tuple([
            (kind, number, tuple([form_of(net, wrong, total) for total in totals]))
            for kind, number, totals in heard_steps(rule.steps, silent)
        ])
        self._strict = strict

    def holds(self, tree):
        """Whether a value, whatever it is, is a tree for the whole of the runs."""
        return self._holds_from(tree, first_event(self._steps, ()), (), ())

    def _holds_from(self, tree, event, equal, unequal):
        """Whether this is a tree for the runs from this event on, with these rows of forms."""
        if not isinstance(tree, tuple) or len(tree) != 2 or not isinstance(tree[0], tuple):
            return False
        for step in tree[0]:
            if event[0] != TESTS or not is_marked(step):
                return False
            form = _less(event[1][0], event[1][1])
            if not self._is_step(step, form, equal, unequal):
                return False
            event = next_event(self._steps, (), event, step[0] == "equal")
        return is_marked(tree[1]) and self._is_close(tree[1], event, equal, unequal)

    def _is_step(self, step, form, equal, unequal):
        """Whether this tuple is a step at a test with this form."""
        if step[0] == "equal" and len(step) == 2:
            return self._is_combination(step[1], form, equal)
        if step[0] != "unequal" or len(step) != 3 or not is_number(step[1]):
            return False
        return 0 <= step[1] < len(unequal) and self._is_combination(step[2], unequal[step[1]], equal + (form,))

    def _is_close(self, close, event, equal, unequal):
        """Whether this tuple closes a tree at this event."""
        if close[0] == "tells" and len(close) == 2 and event[0] == TELLS:
            return self._is_combination(close[1], _less(event[1][0], self._pipe), equal)
        if close[0] == "both" and len(close) == 3 and event[0] == TESTS:
            more = (_less(event[1][0], event[1][1]),)
            return (
                self._holds_from(close[1], next_event(self._steps, (), event, True), equal + more, unequal)
                and self._holds_from(close[2], next_event(self._steps, (), event, False), equal, unequal + more)
            )
        return close[0] == "doubts" and len(close) == 1 and event[0] == DOUBTS and not self._strict

    def _is_combination(self, value, form, forms):
        """Whether a value, whatever it is, is a combination for a form and a row of forms."""
        if not isinstance(value, tuple) or len(value) != 3:
            return False
        times, factors, heights = value
        if not is_number(times) or times == 0:
            return False
        if not are_numbers(factors, len(forms)) or not are_numbers(heights, self._places):
            return False
        rises = [heights[end] - heights[start] for start, end in self._ends]
        left = [times * number for number in form]
        for factor, other in zip(factors, forms):
            left = [one - factor * two for one, two in zip(left, other)]
        return left[:len(rises)] == rises and not any(left[len(rises):])


def is_marked(value):
    """Whether a value, whatever it is, is a tuple that begins with a string."""
    return isinstance(value, tuple) and value != () and isinstance(value[0], str)


def are_numbers(value, many):
    """Whether a value, whatever it is, is a tuple of so many integers."""
    return isinstance(value, tuple) and len(value) == many and all([is_number(number) for number in value])


def _less(one, two):
    """The first form less the second one."""
    return tuple([left - right for left, right in zip(one, two)])
