"""What the tests of a run have told: which linear forms are 0, and which ones are not.

A form is a line: a tuple of integers, its coordinates, behind which further ones may stand. Whatever these mean, they
are added and multiplied with the coordinates.
"""

from math import gcd, lcm


class Known:
    """Forms that are 0, and others that are not, at points with so many coordinates."""

    def __init__(self, many, rows=(), unlike=()):
        self._many = many
        # Pairs of a coordinate and a line; the lines of all other pairs are 0 at this coordinate.
        self._rows = rows
        self._unlike = unlike
        self._indexes = {self._direction(line): index for index, line in enumerate(unlike)}

    def reduced(self, line):
        """The form times some integer, less those that are 0, in the one way that is left for all equal forms."""
        for at, row in self._rows:
            if line[at] != 0:
                line = combined(line, row[at], row, -line[at])
        return line

    def is_zero(self, line):
        """Whether a reduced form is 0 because others are."""
        return not any(line[:self._many])

    def decided_by(self, line):
        """The index of a form that is not 0 and of which this reduced one is a multiple, None if there is none."""
        return self._indexes.get(self._direction(line))

    def unlike(self, index):
        """The form with this index among those that are not 0, reduced."""
        return self._unlike[index]

    def with_zero(self, line):
        """What is known if this reduced form is 0, too."""
        at = first_other(line)
        rows = tuple([(pivot, _cleared(row, at, line)) for pivot, row in self._rows]) + ((at, line),)
        known = Known(self._many, rows)
        return Known(self._many, rows, tuple([known.reduced(other) for other in self._unlike]))

    def with_unlike(self, line):
        """What is known if this reduced form is not 0."""
        return Known(self._many, self._rows, self._unlike + (line,))

    def point_beside(self, line):
        """A point that fits what is known and at which this reduced form is not 0, unless it is None."""
        lines = self._unlike if line is None else self._unlike + (line,)
        point = _away_from(self._many, [other[:self._many] for other in lines])
        # The rows tell the coordinates that the forms above do not have.
        wanted = [(at, row[at], -_value(row[:self._many], point)) for at, row in self._rows]
        scale = 1
        for _, times, value in wanted:
            scale = lcm(scale, times // gcd(times, value))
        point = [number * scale for number in point]
        for at, times, value in wanted:
            point[at] = value * scale // times
        return primitive(tuple(point))

    def _direction(self, line):
        """The same coordinates for two forms exactly if one is a multiple of the other."""
        shape = primitive(line[:self._many])
        return tuple([-number for number in shape]) if shape[first_other(shape)] < 0 else shape


def combined(one, times, two, more):
    """One line and another one, multiplied with these integers and added, as short as possible."""
    return primitive(tuple([times * left + more * right for left, right in zip(one, two)]))


def primitive(line):
    """The line divided by the greatest integer that divides all of it."""
    common = 0
    for number in line:
        common = gcd(common, number)
        if common == 1:
            return line
    return line if common == 0 else tuple([number // common for number in line])


def _cleared(row, at, line):
    """A row less so much of a line that it is 0 at this coordinate."""
    return row if row[at] == 0 else combined(row, line[at], line, -row[at])


def first_other(line):
    """The index of the first element that is not 0."""
    at = 0
    while line[at] == 0:
        at += 1
    return at


def _away_from(many, lines):
    """A point at which none of these forms is 0, each of which has a coordinate other than 0."""
    point = [0] * many
    for index, line in enumerate(lines):
        if _value(line, point) == 0:
            at = first_other(line)
            point[at] += _step(lines[:index], at, point)
    return point


def _step(lines, at, point):
    """How far a coordinate of a point can grow, such that none of these forms becomes 0."""
    values = [(_value(line, point), line[at]) for line in lines]
    step = 1
    while any([value + step * by == 0 for value, by in values]):
        step += 1
    return step


def _value(line, point):
    """The value of a form at a point."""
    return sum([one * two for one, two in zip(line, point)])


def difference(lines):
    """The first one of two lines less the second one."""
    return tuple([one - two for one, two in zip(lines[0], lines[1])])
