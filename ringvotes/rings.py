"""Which pipes join places and which ones close rings, and flows that have given amounts at some pipes."""


def split(net, parts):
    """Two lists of these pipes: those that join what the ones before them do not join, and those that close rings."""
    marks = {place: place for place in net.places}
    kept, closing = [], []
    for part in parts:
        if marks[part.start] == marks[part.end]:
            closing.append(part)
        else:
            kept.append(part)
            marks = _merged(marks, part)
    return kept, closing


def joined(net, parts):
    """A mark for each place: the same one for two places exactly if these pipes join them."""
    marks = {place: place for place in net.places}
    for part in parts:
        marks = _merged(marks, part)
    return marks


def carries_ring(net, parts):
    """Whether there is a flow other than 0 that is 0 at all pipes but these."""
    return split(net, parts)[1] != []


def rooted(net, parts):
    """Links of a forest: tuples (pipe, near place, far place), each behind the one that leads to its near place.

    Pipes that lead only to places to which others have led are left out.
    """
    links = []
    reached = {}
    for place in net.places:
        if place not in reached:
            reached[place] = True
            _reach_on(parts, reached, links)
    return links


def fitting_flow(net, amounts):
    """A flow that has these amounts, in a dict, at the pipes with these names; None if there is none."""
    found = {part.name: amounts.get(part.name, 0) for part in net.pipes}
    left = {place: 0 for place in net.places}
    for part in net.pipes:
        left[part.end] += found[part.name]
        left[part.start] -= found[part.name]
    # From the far ends inwards, each pipe of the forest takes what is left behind it.
    for part, _, far in rooted(net, [part for part in net.pipes if part.name not in amounts])[::-1]:
        amount = left[far] if part.start == far else -left[far]
        found[part.name] = amount
        left[part.end] += amount
        left[part.start] -= amount
    if any([left[place] != 0 for place in net.places]):
        return None
    return tuple([found[part.name] for part in net.pipes])


def ring_closed(net, closing, part):
    """The flow that is 1 at this one of the pipes that close rings with a forest, and 0 at the others."""
    return fitting_flow(net, {other.name: 1 if other.name == part.name else 0 for other in closing})


def rings_of(net):
    """Flows of which each flow of the net is a sum, taken any number of times, forwards or backwards."""
    closing = split(net, net.pipes)[1]
    return tuple([ring_closed(net, closing, part) for part in closing])


def _merged(marks, part):
    """The marks when this pipe joins its places, too."""
    old, new = marks[part.start], marks[part.end]
    return {place: new if marks[place] == old else marks[place] for place in marks}


def _reach_on(parts, reached, links):
    """Adds links to all places to which these pipes lead from those that are reached."""
    # No place is farther away than all pipes together, so this many rounds are enough.
    for _ in parts:
        for part in parts:
            if (part.start in reached) != (part.end in reached):
                near, far = (part.start, part.end) if part.start in reached else (part.end, part.start)
                reached[far] = True
                links.append((part, near, far))
