"""What several tests share: values of all kinds, checks of errors, and the runner for examples of the document."""


class SameAsAll:
    """Claims to be equal to everything."""

    def __eq__(self, other):
        return True

    def __ne__(self, other):
        return False

    def __hash__(self):
        return hash("m1")


class Sour:
    """Fails whenever it is compared, hashed, measured, tested or written."""

    def __eq__(self, other):
        raise RuntimeError("compared")

    __ne__ = __lt__ = __gt__ = __eq__

    def __hash__(self):
        raise RuntimeError("hashed")

    def __len__(self):
        raise RuntimeError("measured")

    def __bool__(self):
        raise RuntimeError("tested")

    def __str__(self):
        raise RuntimeError("written")

    __repr__ = __str__


def nested(kind, depth):
    """A value in which this many lists or tuples stand in one another."""
    value = kind()
    for _ in range(depth - 1):
        value = kind([value])
    return value


def odd_values():
    """Values that are no name, no tuple that anything takes, no Sum, Pipe, Meter or Net."""
    return [
        None, True, False, 0, 1, -1, 2, 10 ** 39, -(10 ** 39),
        "", "M1", "1", "1m", "m_1", "m 1", " m1", "m1 ", "m1\n", "\n", "abcdefghi", "-", "a-b", "a.b", "A", "aB",
        b"", b"m1", bytearray(b"m1"),
        [], ["m1"], [("m1", 1)], {}, {"m1": 1}, {("m1", 1): 1}, set(), {"m1"}, frozenset(["m1"]),
        range(3), slice(0, 1), Ellipsis, NotImplemented, 1j, object(), object, str, len, iter(()), lambda: 1,
        ValueError("m1"), SameAsAll(), Sour(), nested(list, 200), {"m1": nested(tuple, 100)},
    ]


def odd_tuples():
    """Tuples that are no name either, none of them empty or a pair of a name and an integer."""
    return [("m1",), (1,), ("m1", "m1"), (("m1", 1),), (None, None), nested(tuple, 200), (Sour(), SameAsAll())]


def odd_faults():
    """Values that are no faults."""
    return odd_values() + odd_tuples() + [
        (), (0,), (0, 0), (0, 0, 0, 0), (1, 1, 1, 1), [0, 0, 0], [1, 1, 1], {0: 0, 1: 0, 2: 0}, "000",
        (1, 0, 0), (3, 2, 0), (2, 1, 3), (3, 0, 0), (0, 4, 0), (4, 4, 0), (0, 0, 4), (4, 3, 0), (0, 10 ** 39, 0),
        (-1, 0, 0), (0, 0, -1), (-1, -1, 0), (-2, -1, -1),
        (True, 1, 0), (True, True, 0), (0, True, 0), (0, 0, True), (False, 0, 0), (0, False, 0), (0, 0, False),
        (None, 0, 0), (0, None, 0), (0, 0, None), ("0", 0, 0), (0, "1", 0), (0, 0, "0"), ((0, 0, 0),),
        ((0,), 0, 0), (0, [0], 0), (0, 0, ()), (SameAsAll(), 0, 0), (0, SameAsAll(), 0), (0, 0, Sour()), (Sour(), 0, 0),
        ((0, 0), 0), (b"0", 0, 0), (1j, 1, 0),
    ]


def raised(case, error, call, *values, **named):
    """The error of just this class that a call raises."""
    with case.assertRaises(error) as caught:
        call(*values, **named)
    case.assertIs(caught.exception.__class__, error)
    return caught.exception


def check_given(case, error, given, call, *values, **named):
    """The call raises this error, and its `given` is the value itself."""
    case.assertIs(raised(case, error, call, *values, **named).given, given)


def check_index(case, error, index, call, *values, **named):
    """The call raises this error with this index."""
    found = raised(case, error, call, *values, **named).index
    case.assertEqual(found, index)
    case.assertIs(found.__class__, index.__class__)


def check_all_given(case, error, values, call, *before, behind=()):
    """The call raises this error with each of these values behind the others, whatever stands behind it."""
    for value in values:
        check_given(case, error, value, call, *before, value, *behind)


def check_by_name(case, call, **named):
    """The call returns equal results by position, by name, and by name in another order; returns the result."""
    result = call(*named.values())
    case.assertEqual(call(**named), result)
    case.assertEqual(call(**dict(reversed(named.items()))), result)
    return result


def edits(text, letters):
    """All strings that differ from a text by one character left out, put in or exchanged, or by two exchanged."""
    found = []
    for at in range(len(text) + 1):
        found.extend([text[:at] + letter + text[at:] for letter in letters])
        if at < len(text):
            found.append(text[:at] + text[at + 1:])
            found.extend([text[:at] + letter + text[at + 1:] for letter in letters])
        if at + 1 < len(text):
            found.append(text[:at] + text[at + 1] + text[at] + text[at + 2:])
    return found


def run_examples(case, text, names):
    """Runs lines as the document has them: behind `>>> ` the input, below it the value or the error."""
    lines = text.strip("\n").split("\n")
    while lines:
        line = lines.pop(0)
        case.assertTrue(line.startswith(">>> "), line)
        source = line[len(">>> "):]
        if not lines or lines[0].startswith(">>> "):
            exec(source, names)
        elif lines[0].startswith("raises "):
            check_example_error(case, source, lines.pop(0)[len("raises "):], names)
        else:
            case.assertEqual(repr(eval(source, names)), lines.pop(0))


def check_example_error(case, source, told, names):
    """The source raises the error that is told as in `UnknownName(given='m6')`."""
    with case.assertRaises(Exception) as caught:
        eval(source, names)
    error = caught.exception
    values = ", ".join([f"{name}={value!r}" for name, value in vars(error).items()])
    case.assertEqual(f"{error.__class__.__name__}({values})", told)


def odd_numbers():
    """Values that are no integers from 0 to 3."""
    return odd_tuples() + [value for value in odd_values() if value.__class__ is not int or not 0 <= value <= 3] + [
        (), 4, -1, "1", b"1", [1], (1,), 1j,
    ]
