"""Decisions by linear algebra over fractions, held against those of the package: rules by the forms of [16], flows
that fit readings, and readings that nets have."""

from fractions import Fraction
from itertools import combinations

from tests.oracles import expected_row


class Span:
    """All combinations of some vectors."""

    def __init__(self, vectors=()):
        self.rows = []
        for vector in vectors:
            self.add(vector)

    def left(self, vector):
        """What is left of a vector if as much as possible is taken away, 0 if it is a combination."""
        vector = [Fraction(number) for number in vector]
        for at, row in self.rows:
            if vector[at]:
                factor = vector[at] / row[at]
                vector = [one - factor * two for one, two in zip(vector, row)]
        return vector

    def has(self, vector):
        return not any(self.left(vector))

    def add(self, vector):
        left = self.left(vector)
        if any(left):
            self.rows.append(([bool(number) for number in left].index(True), left))

    def more(self, vector):
        span = Span()
        span.rows = list(self.rows)
        span.add(vector)
        return span


def balances(net, more=0):
    """For each place what comes in less what goes out, as vectors over the pipes and so many other variables."""
    return [
        [(pipe.end == place) - (pipe.start == place) for pipe in net.pipes] + [0] * more
        for place in net.places
    ]


def pairs_of_sets(net, wrong, silent):
    """All pairs of sets of so many wrong and silent meters at most."""
    names = sorted([meter.name for meter in net.meters if not meter.sealed])
    for many in range(wrong + 1):
        for chosen in combinations(names, many):
            for more in range(silent + 1):
                for hushed in combinations([name for name in names if name not in chosen], more):
                    yield chosen, hushed


def run(rows, silent, answers):
    """How a run goes on behind these answers: (rows come to, "asks", terms, terms) or (rows, "tells", terms or None)."""
    answers = list(answers)
    come, at = [], 0
    while True:
        come.append(at)
        kind, number, sums = expected_row(rows[at], at, len(rows))
        heard = [terms for terms in sums if not [name for name, _ in terms if name in silent]]
        at += 1
        if kind == "if" and len(heard) == 2:
            if not answers:
                return come, "asks", *heard
            at = number if answers.pop(0) else at
        if kind == "vote":
            for index, terms in enumerate(heard):
                unlike = 0
                for other in heard[:index] + heard[index + 1:]:
                    if unlike <= number:
                        if not answers:
                            return come, "asks", terms, other
                        unlike += 0 if answers.pop(0) else 1
                if unlike <= number:
                    return come, "tells", terms
        if kind == "tell":
            return come, "tells", heard[0] if heard else None
        if kind == "doubt":
            return come, "tells", None


def vector_of(net, wrong, terms):
    """The value of a sum as a vector over the pipes and the meters that may be wrong."""
    places = {pipe.name: index for index, pipe in enumerate(net.pipes)}
    vector = [0] * (len(net.pipes) + len(wrong))
    for name, number in terms:
        if name in wrong:
            vector[len(net.pipes) + wrong.index(name)] += number
        else:
            vector[places[net.meter(name).at]] += number
    return vector


def pipe_vector(net, wrong, name):
    return [1 if pipe.name == name else 0 for pipe in net.pipes] + [0] * len(wrong)


def less(one, two):
    return [left - right for left, right in zip(one, two)]


def ends(net, wrong, silent, rows, equal=None, unlike=(), answers=()):
    """All ends of runs that come about: (rows come to, terms or None, equal forms, forms other than 0)."""
    equal = Span(balances(net, len(wrong))) if equal is None else equal
    come, kind, *terms = run(rows, silent, answers)
    if kind == "tells":
        yield come, terms[0], equal, unlike
        return
    form = less(vector_of(net, wrong, terms[0]), vector_of(net, wrong, terms[1]))
    if not equal.has(form):
        yield from ends(net, wrong, silent, rows, equal, unlike + (form,), answers + (False,))
    narrow = equal.more(form)
    if not any(narrow.has(other) for other in unlike):
        yield from ends(net, wrong, silent, rows, narrow, unlike, answers + (True,))


def fools_somewhere(net, wrong, silent, rows, name, strict):
    """Whether some world with these sets has an outcome that is not right."""
    for _, terms, equal, _ in ends(net, wrong, silent, rows):
        if terms is None and strict:
            return True
        if terms is not None and not equal.has(less(vector_of(net, wrong, terms), pipe_vector(net, wrong, name))):
            return True
    return False


def least_fooling(net, name, rows, faults):
    """The least numbers of wrong and silent meters in a world that fools a rule, None if it is right."""
    counts = [
        (len(wrong), len(silent)) for wrong, silent in pairs_of_sets(net, *faults[1:])
        if fools_somewhere(net, wrong, silent, rows, name, len(wrong) <= faults[0])
    ]
    return min(counts, default=None)


def parts_somewhere(net, wrong, silent, one, two):
    """Whether two rules have different outcomes in some world with these sets."""
    for _, told, equal, unlike in ends(net, wrong, silent, one):
        for _, other, narrow, _ in ends(net, wrong, silent, two, equal, unlike):
            if (told is None) != (other is None):
                return True
            if told is not None:
                if not narrow.has(less(vector_of(net, wrong, told), vector_of(net, wrong, other))):
                    return True
    return False


def least_parting(net, one, two, wrong, silent):
    """The least numbers of wrong and silent meters in a world in which outcomes differ, None if there is none."""
    counts = [
        (len(chosen), len(hushed)) for chosen, hushed in pairs_of_sets(net, wrong, silent)
        if parts_somewhere(net, chosen, hushed, one, two)
    ]
    return min(counts, default=None)


def rows_reached(net, rows, wrong, silent):
    """The ascending tuple of the rows to which a rule comes in some world."""
    found = set()
    for chosen, hushed in pairs_of_sets(net, wrong, silent):
        for come, *_ in ends(net, chosen, hushed, rows):
            found.update(come)
    return tuple(sorted(found))


def fixed(net, amounts):
    """Equations (vector, value) for all flows that have these amounts, a list of pairs (name, amount)."""
    equations = [(vector, 0) for vector in balances(net)]
    return equations + [(pipe_vector(net, (), name), amount) for name, amount in amounts]


def solvable(equations):
    """Whether some vector of fractions fulfils equations (vector, value)."""
    left = Span([vector for vector, _ in equations])
    whole = Span([list(vector) + [value] for vector, value in equations])
    return len(left.rows) == len(whole.rows)


def shown(net, readings, ignored=()):
    """The pairs (pipe, reading) of the meters that are neither silent nor ignored."""
    return [
        (meter.at, seen) for meter, seen in zip(net.meters, readings)
        if seen is not None and meter.name not in ignored
    ]


def fit(net, readings, ignored=()):
    """Whether some flow has these readings, but for the ignored meters."""
    return solvable(fixed(net, shown(net, readings, ignored)))


def told_flow(net, readings, ignored, name):
    """A tuple with the flow that a pipe must have, with None if it may have several; empty if no flow fits."""
    equations = fixed(net, shown(net, readings, ignored))
    if not solvable(equations):
        return ()
    vector = pipe_vector(net, (), name)
    if not Span([left for left, _ in equations]).has(vector):
        return (None,)
    # What is left of (vector, 0) stands in the last column only: it is the flow, with its sign turned.
    whole = Span([list(left) + [-value] for left, value in equations])
    return (whole.left(vector + [0])[-1],)


def seen_span(net):
    """All readings of flows of a net, over the names of the meters in ascending order."""
    columns = Span(balances(net))
    names = sorted([meter.name for meter in net.meters])
    pivots = [at for at, _ in columns.rows]
    free = [index for index in range(len(net.pipes)) if index not in pivots]
    flows = [solution(net, columns, free, index) for index in free]
    index = {pipe.name: at for at, pipe in enumerate(net.pipes)}
    return [[flow[index[net.meter(name).at]] for name in names] for flow in flows]


def solution(net, columns, free, chosen):
    """The flow that is 1 at the pipe with this index and 0 at the other free ones."""
    flow = [Fraction(int(index == chosen)) for index in range(len(net.pipes))]
    # The rows were added in order, each one is 0 at the pivots of those before it: solve from the last one on.
    for at, row in reversed(columns.rows):
        flow[at] = -sum([row[index] * flow[index] for index in range(len(flow)) if index != at]) / row[at]
    return flow


def same_spans(one, two):
    """Whether two nets with meters of the same names have the same readings."""
    first, second = seen_span(one), seen_span(two)
    return all(Span(second).has(row) for row in first) and all(Span(first).has(row) for row in second)
