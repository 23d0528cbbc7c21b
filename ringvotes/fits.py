"""Which flows fit readings, and sums that show that none does."""

from ringvotes.rings import fitting_flow, joined
from ringvotes.sums import Sum
from ringvotes.ways import meters_at
from ringvotes.worlds import by_name, readings_of, value_in


def shown_amounts(net, readings, wrong):
    """What the meters show that are neither silent nor among these, by the names of their pipes.

    None if two of them at the same pipe show different integers.
    """
    amounts = {}
    for part, seen in zip(net.meters, readings):
        if seen is not None and part.name not in wrong:
            if amounts.get(part.at, seen) != seen:
                return None
            amounts[part.at] = seen
    return amounts


def fitting_readings(net, readings, wrong=()):
    """A flow that all meters show that are neither silent nor among these; None if there is none."""
    amounts = shown_amounts(net, readings, wrong)
    return None if amounts is None else fitting_flow(net, amounts)


def readings_in(other, net, flow):
    """What the meters of another net show if each one shows what the one with its name in this net does."""
    shown = by_name(net, readings_of(net, flow))
    return tuple([shown[part.name] for part in other.meters])


def clash_of(net, readings):
    """A sum and heights by the places that show that no flow fits readings; None if one does.

    With these heights the coefficients at each pipe add up to the height of its end less that of its start, so that
    the value of the sum is 0 for each flow; but for the readings it is not.
    """
    shown = by_name(net, readings)
    for total, heights in _alike_at_pipes(net, shown) + _kept_at_places(net, shown):
        if value_in(shown, total) != 0:
            return (total, heights)
    return None


def _alike_at_pipes(net, shown):
    """For each two meters that are not silent and stand at the same pipe their difference, with heights of 0."""
    level = {place: 0 for place in net.places}
    found = []
    for part in net.pipes:
        names = _heard_at(net, shown, part.name)
        found.extend([(Sum.of(names[0]) - Sum.of(name), level) for name in names[1:]])
    return found


def _kept_at_places(net, shown):
    """For each group of places that pipes without readings join, what leads into it, with heights of 1 within it."""
    marks = joined(net, [part for part in net.pipes if not _heard_at(net, shown, part.name)])
    found = []
    for mark in net.places:
        heights = {place: 1 if marks[place] == mark else 0 for place in net.places}
        found.append((_rise(net, shown, heights), heights))
    return found


def _rise(net, shown, heights):
    """The sum that takes each pipe with readings as often as its end is higher than its start."""
    terms = []
    for part in net.pipes:
        names = _heard_at(net, shown, part.name)
        terms.extend([(name, heights[part.end] - heights[part.start]) for name in names[:1]])
    return Sum(tuple(terms))


def _heard_at(net, shown, pipe):
    """The names of the meters at a pipe that are not silent."""
    return [part.name for part in meters_at(net, pipe) if shown[part.name] is not None]
