"""Pipes, the meters at them, and the nets that they make."""

from ringvotes.basics import is_name
from ringvotes.errors import (
    BadValue,
    InvalidEnd,
    InvalidFlag,
    InvalidMeters,
    InvalidName,
    InvalidPipes,
    InvalidText,
    NotAMeter,
    UnknownName,
)
from ringvotes.limits import MOST_METERS, MOST_PIPES


class Pipe:
    """A pipe from a place to another one."""

    def __init__(self, name, start, end):
        _check_names((name, start, end))
        if end == start:
            raise InvalidEnd(end)
        self._name = name
        self._start = start
        self._end = end

    @property
    def name(self):
        """The name of the pipe."""
        return self._name

    @property
    def start(self):
        """The place where the pipe starts."""
        return self._start

    @property
    def end(self):
        """The place where the pipe ends."""
        return self._end

    def __eq__(self, other):
        return (
            isinstance(other, Pipe)
            and self._name == other._name
            and self._start == other._start
            and self._end == other._end
        )


class Meter:
    """A meter that stands at a pipe, sealed or not."""

    def __init__(self, name, at, *, sealed=False):
        _check_names((name, at))
        # Asked with "is", because 1 and 0 are equal to True and False.
        if sealed is not True and sealed is not False:
            raise InvalidFlag(sealed)
        self._name = name
        self._at = at
        self._sealed = sealed

    @property
    def name(self):
        """The name of the meter."""
        return self._name

    @property
    def at(self):
        """The name of the pipe at which the meter stands."""
        return self._at

    @property
    def sealed(self):
        """Whether the meter is sealed."""
        return self._sealed

    def __eq__(self, other):
        return (
            isinstance(other, Meter)
            and self._name == other._name
            and self._at == other._at
            and self._sealed == other._sealed
        )


class Net:
    """Pipes and the meters at them, both in an order."""

    def __init__(self, pipes, meters=()):
        _check_pipes(pipes)
        _check_meters(meters, pipes)
        self._pipes = pipes
        self._meters = meters

    @classmethod
    def read(cls, text):
        """The net with this text."""
        if not isinstance(text, str):
            raise InvalidText(text)
        try:
            net = cls(_pipes_in(text), _meters_in(text))
        except BadValue:
            raise InvalidText(text) from None
        # Only a text that comes back when the net is written has each line, word and space in its place.
        if str(net) != text:
            raise InvalidText(text)
        return net

    @property
    def pipes(self):
        """The pipes, in their order."""
        return self._pipes

    @property
    def meters(self):
        """The meters, in their order."""
        return self._meters

    @property
    def places(self):
        """The ascending names of the places where pipes start or end."""
        return tuple(sorted({place for part in self._pipes for place in (part.start, part.end)}))

    def pipe(self, name):
        """The pipe with this name."""
        index = _index_of(self._pipes, name)
        if index is None:
            raise UnknownName(name)
        return self._pipes[index]

    def meter(self, name):
        """The meter with this name."""
        index = _index_of(self._meters, name)
        if index is None:
            raise UnknownName(name)
        return self._meters[index]

    def __add__(self, other):
        if not isinstance(other, Meter):
            raise NotAMeter(other)
        index = _index_of(self._meters, other.name)
        if index is None:
            return Net(self._pipes, self._meters + (other,))
        return Net(self._pipes, self._meters[:index] + (other,) + self._meters[index + 1:])

    def __sub__(self, other):
        index = _index_of(self._meters, other)
        if index is None:
            raise UnknownName(other)
        return Net(self._pipes, self._meters[:index] + self._meters[index + 1:])

    def __contains__(self, x):
        return _index_of(self._meters, x) is not None

    def __len__(self):
        return len(self._pipes)

    def __str__(self):
        return "\n".join(_lines(self._pipes, self._meters))

    def __repr__(self):
        return f"Net of {len(self._pipes)} pipes, {len(self._meters)} meters"

    def __eq__(self, other):
        # Pipes and meters are equal in the same order exactly if the texts are.
        return isinstance(other, Net) and self._pipes == other._pipes and self._meters == other._meters


def _check_names(values):
    """Raises InvalidName with the first value that is no name."""
    for value in values:
        if not is_name(value):
            raise InvalidName(value)


def _check_pipes(pipes):
    """Raises InvalidPipes if these are not the pipes of a net."""
    if not isinstance(pipes, tuple) or not pipes:
        raise InvalidPipes(None)
    names = []
    for index, part in enumerate(pipes):
        if not isinstance(part, Pipe) or part.name in names or index >= MOST_PIPES:
            raise InvalidPipes(index)
        names.append(part.name)


def _check_meters(meters, pipes):
    """Raises InvalidMeters if these are not meters of a net with these pipes."""
    if not isinstance(meters, tuple):
        raise InvalidMeters(None)
    names = []
    for index, part in enumerate(meters):
        if not isinstance(part, Meter) or part.name in names or index >= MOST_METERS:
            raise InvalidMeters(index)
        if _index_of(pipes, part.at) is None:
            raise InvalidMeters(index)
        names.append(part.name)


def _index_of(parts, name):
    """The index of the pipe or meter with this name, whatever it is; None if there is none."""
    # Other values are not compared: they may claim to be equal to a name.
    if not isinstance(name, str):
        return None
    for index, part in enumerate(parts):
        if part.name == name:
            return index
    return None


def _lines(pipes, meters):
    """The lines of the text of a net."""
    return [_pipe_line(part) for part in pipes] + [_meter_line(part) for part in meters]


def _pipe_line(part):
    """The line of a pipe."""
    return f"pipe {part.name} {part.start} {part.end}"


def _meter_line(part):
    """The line of a meter."""
    seal = " sealed" if part.sealed else ""
    return f"meter {part.name} {part.at}{seal}"


def _rows_in(text):
    """The words of each line."""
    return [line.split(" ") for line in text.split("\n")]


def _pipes_in(text):
    """The pipes that a string holds, if it is the text of a net; otherwise any pipes."""
    rows = [row for row in _rows_in(text) if row[0] == "pipe" and len(row) == 4]
    return tuple([Pipe(row[1], row[2], row[3]) for row in rows])


def _meters_in(text):
    """The meters that a string holds, if it is the text of a net; otherwise any meters."""
    rows = [row for row in _rows_in(text) if row[0] == "meter" and len(row) in (3, 4)]
    return tuple([Meter(row[1], row[2], sealed=len(row) == 4) for row in rows])
