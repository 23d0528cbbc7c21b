"""Sums of meters with integer coefficients, and their texts."""

from ringvotes.basics import is_digits, is_name, is_number, read_number, written_number
from ringvotes.errors import InvalidName, InvalidNumber, InvalidTerms, InvalidText, NotASum


class Sum:
    """An integer for each of finitely many names, 0 for all others."""

    def __init__(self, terms=()):
        _check_terms(terms)
        self._terms = _collected(terms)

    @classmethod
    def read(cls, text):
        """The sum with this text."""
        if not isinstance(text, str):
            raise InvalidText(text)
        total = cls(_terms_in(text))
        # Only a text that comes back when the sum is written has each sign, space and term in its place.
        if str(total) != text:
            raise InvalidText(text)
        return total

    @classmethod
    def of(cls, *names):
        """The sum that counts how often each name was passed."""
        for name in names:
            if not is_name(name):
                raise InvalidName(name)
        return cls(tuple([(name, 1) for name in names]))

    @property
    def terms(self):
        """The ascending pairs of a name and its coefficient, without those that are 0."""
        return self._terms

    def __len__(self):
        return len(self._terms)

    def __bool__(self):
        # Without this, a sum without terms would be false because of its length.
        return True

    def __getitem__(self, at):
        if not is_name(at):
            raise InvalidName(at)
        for name, number in self._terms:
            if name == at:
                return number
        return 0

    def __iter__(self):
        raise TypeError("a sum is not iterated over")

    def __contains__(self, x):
        return is_name(x) and self[x] != 0

    def __str__(self):
        return "".join(_written_terms(self._terms))

    def __eq__(self, other):
        return isinstance(other, Sum) and self._terms == other._terms

    def __add__(self, other):
        if not isinstance(other, Sum):
            raise NotASum(other)
        return Sum(self._terms + other._terms)

    def __sub__(self, other):
        if not isinstance(other, Sum):
            raise NotASum(other)
        return self + -other

    def __neg__(self):
        return self * -1

    def __mul__(self, other):
        if not is_number(other):
            raise InvalidNumber(other)
        return Sum(tuple([(name, number * other) for name, number in self._terms]))

    def __rmul__(self, other):
        return self * other


def _check_terms(terms):
    """Raises InvalidTerms if this is no tuple of pairs of a name and an integer."""
    if not isinstance(terms, tuple):
        raise InvalidTerms(None)
    for index, term in enumerate(terms):
        if not _is_term(term):
            raise InvalidTerms(index)


def _is_term(value):
    """Whether a value, whatever it is, is a pair of a name and an integer."""
    return isinstance(value, tuple) and len(value) == 2 and is_name(value[0]) and is_number(value[1])


def _collected(terms):
    """The ascending pairs with a coefficient other than 0, those of equal names added."""
    coefficients = {}
    for name, number in terms:
        coefficients[name] = coefficients.get(name, 0) + number
    return tuple([(name, coefficients[name]) for name in sorted(coefficients) if coefficients[name] != 0])


def _written_terms(terms):
    """The pieces of the text of a sum with these terms."""
    if not terms:
        return ["0"]
    name, number = terms[0]
    minus = "-" if number < 0 else ""
    first = minus + _without_sign(name, number)
    return [first] + [_written_further(name, number) for name, number in terms[1:]]


def _written_further(name, number):
    """A term that is not the first one, with its sign between spaces."""
    sign = "-" if number < 0 else "+"
    return f" {sign} {_without_sign(name, number)}"


def _without_sign(name, number):
    """A term without the sign of its coefficient."""
    if abs(number) == 1:
        return name
    return f"{written_number(abs(number))}*{name}"


def _terms_in(text):
    """The terms that a string holds, if it is the text of a sum; otherwise any terms."""
    words = _with_sign_apart(text).split(" ")
    terms = [_read_term(sign, word) for sign, word in zip(words[0::2], words[1::2])]
    return tuple([term for term in terms if term is not None])


def _with_sign_apart(text):
    """The text with a sign and a space before its first term, as they stand before the further ones."""
    if text.startswith("-"):
        return "- " + text[1:]
    return "+ " + text


def _read_term(sign, word):
    """The pair that is written with this sign and word, None if there is none."""
    digits, star, name = word.rpartition("*")
    if not is_name(name) or (star and not is_digits(digits)):
        return None
    number = read_number(digits) if star else 1
    return (name, -number if sign == "-" else number)
