"""Trees that show that a rule is right in all worlds in which given meters may be wrong or are silent.

A line here has, behind the coordinates of a form in its space, what the certificate is to tell of it: what it gives to
each pipe, how often it takes the form that is asked for, and how often each of the equal forms.
"""

from ringvotes.forms import form_at, form_of
from ringvotes.heights import heights_for
from ringvotes.knowing import Known, combined, difference, first_other
from ringvotes.runs import TELLS, TESTS, first_event, heard_steps, next_event


class Growing:
    """Grows the tree of a rule that is right in a space of worlds."""

    def __init__(self, net, space, pipe, rule, wrong, silent):
        self._net = net
        self._many = space.many
        self._pipe = space.form_at(pipe) + form_at(net, (), pipe)
        self._steps = tuple([
            (kind, number, tuple([space.form_of(total) + form_of(net, wrong, total)[:len(net)] for total in totals]))
            for kind, number, totals in heard_steps(rule.steps, silent)
        ])
        # Where a line tells how often it takes the form that is asked for.
        self._times = self._many + len(net)
        self._heights = {}

    def tree(self):
        """The tree for the whole of the runs."""
        return self._tree_from(first_event(self._steps, ()), Known(self._many), 0)

    def _tree_from(self, event, known, equal):
        """The tree for the runs from this event on, with so many equal forms."""
        steps = []
        while event[0] == TESTS:
            line = self._asked(event[1], known)
            if known.is_zero(line):
                steps.append(("equal", self._combination(line, equal)))
            else:
                index = known.decided_by(line)
                if index is None:
                    return (tuple(steps), self._both(event, known, equal, line))
                steps.append(("unequal", index, self._refusal(known.unlike(index), line, equal)))
            event = next_event(self._steps, (), event, steps[-1][0] == "equal")
        if event[0] == TELLS:
            told = self._asked((event[1][0], self._pipe), known)
            return (tuple(steps), ("tells", self._combination(told, equal)))
        return (tuple(steps), ("doubts",))

    def _both(self, event, known, equal, line):
        """The two trees for the answers of a test that may have both."""
        alike = next_event(self._steps, (), event, True)
        apart = next_event(self._steps, (), event, False)
        return (
            "both",
            self._tree_from(alike, known.with_zero(self._as_equal(line, equal)), equal + 1),
            self._tree_from(apart, known.with_unlike(line), equal),
        )

    def _asked(self, forms, known):
        """The difference of two forms, taken once, less what is known."""
        return known.reduced(difference(forms) + (1,) + (0,) * self._many)

    def _as_equal(self, line, index):
        """The line of a form that has become the equal form with this index."""
        taken = [line[self._times] if at == index else line[self._times + 1 + at] for at in range(self._many)]
        return line[:self._times] + (0,) + tuple(taken)

    def _refusal(self, unlike, line, equal):
        """The combination for an unequal form that is a multiple of the one that is asked for."""
        asked = self._as_equal(line, equal)
        at = first_other(line)
        return self._combination(combined(unlike, asked[at], asked, -unlike[at]), equal + 1)

    def _combination(self, line, equal):
        """The combination for the form that a line takes, which is 0 because so many equal forms are."""
        factors = tuple([-number for number in line[self._times + 1:self._times + 1 + equal]])
        return (line[self._times], factors, self._heights_for(line[self._many:self._times]))

    def _heights_for(self, amounts):
        """The heights that differ at the ends of each pipe by what a line gives to it."""
        if amounts not in self._heights:
            heights = heights_for(self._net, amounts)
            self._heights[amounts] = tuple([heights[place] for place in self._net.places])
        return self._heights[amounts]
