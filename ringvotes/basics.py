"""What counts as an integer and as a name, and integers as decimal digits."""

_LETTERS = "abcdefghijklmnopqrstuvwxyz"
_DIGITS = "0123456789"
_LONGEST_NAME = 8

_PIECE = 64
_PIECE_WORTH = 10 ** 64


def is_number(value):
    """Whether a value, whatever it is, is an integer other than True and False."""
    return isinstance(value, int) and not isinstance(value, bool)


def is_name(value):
    """Whether a value, whatever it is, is a name."""
    if not isinstance(value, str) or not 1 <= len(value) <= _LONGEST_NAME:
        return False
    return value[0] in _LETTERS and all([letter in _LETTERS + _DIGITS for letter in value])


def is_digits(text):
    """Whether a string has decimal digits only, and at least one."""
    # Python's isdigit alone takes digits of other scripts, too.
    return text.isascii() and text.isdigit()


def written_number(number):
    """The decimal digits of an integer from 0 on."""
    # Python refuses to write thousands of digits at once, but sums may be multiplied without end.
    pieces = []
    while number >= _PIECE_WORTH:
        number, rest = divmod(number, _PIECE_WORTH)
        pieces.append(str(rest).zfill(_PIECE))
    pieces.append(str(number))
    return "".join(pieces[::-1])


def read_number(digits):
    """The integer with these decimal digits."""
    # As in written_number, Python refuses to read thousands of digits at once.
    first = len(digits) % _PIECE
    number = int("0" + digits[:first])
    for at in range(first, len(digits), _PIECE):
        number = number * _PIECE_WORTH + int(digits[at:at + _PIECE])
    return number
