"""The worlds of a net in which given meters are silent and no others than given ones are wrong.

Such a world is a point: how often it takes each ring of the net, and what each meter shows that may be wrong. What a
sum shows, and what flows in a pipe, are linear forms at these points.
"""

from ringvotes.runs import heard_steps


class Space:
    """The worlds in which just the meters `silent` are silent, and no others than the meters `wrong` are wrong."""

    def __init__(self, net, rings, wrong, silent):
        self._net = net
        self._rings = rings
        self._wrong = wrong
        self._silent = silent
        self.many = len(rings) + len(wrong)
        self._shown = {part.name: self._form_shown(part) for part in net.meters}

    def form_of(self, total):
        """The value of a sum without silent meters."""
        form = (0,) * self.many
        for name, number in total.terms:
            form = tuple([one + number * two for one, two in zip(form, self._shown[name])])
        return form

    def form_at(self, pipe):
        """The flow of a pipe."""
        index = [part.name for part in self._net.pipes].index(pipe)
        return tuple([ring[index] for ring in self._rings]) + (0,) * len(self._wrong)

    def steps_of(self, rule):
        """The steps of a rule with forms in the place of the sums."""
        steps = heard_steps(rule.steps, self._silent)
        return tuple([
            (kind, number, tuple([self.form_of(total) for total in totals])) for kind, number, totals in steps
        ])

    def world_at(self, point):
        """The world that this point stands for."""
        times = point[:len(self._rings)]
        flow = [0 for _ in self._net.pipes]
        for number, ring in zip(times, self._rings):
            flow = [one + number * two for one, two in zip(flow, ring)]
        readings = []
        for part in self._net.meters:
            seen = sum([one * two for one, two in zip(self._shown[part.name], point)])
            readings.append(None if part.name in self._silent else seen)
        return (tuple(flow), tuple(readings))

    def _form_shown(self, part):
        """What a meter shows while it is not silent."""
        if part.name not in self._wrong:
            return self.form_at(part.at)
        return (0,) * len(self._rings) + tuple([1 if name == part.name else 0 for name in self._wrong])
