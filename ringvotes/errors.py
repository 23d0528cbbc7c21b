"""The errors of the package, each under the one base class that tells its kind."""


class BadValue(ValueError):
    """An argument is not of the kind that is asked for."""


class InvalidName(BadValue):
    """The value is no name."""

    def __init__(self, given):
        self.given = given


class InvalidEnd(BadValue):
    """A pipe ends where it starts."""

    def __init__(self, given):
        self.given = given


class InvalidFlag(BadValue):
    """The value is neither True nor False."""

    def __init__(self, given):
        self.given = given


class InvalidText(BadValue):
    """The value is not the text of what is to be read."""

    def __init__(self, given):
        self.given = given


class InvalidNumber(BadValue):
    """The value is no integer that may stand here."""

    def __init__(self, given):
        self.given = given


class InvalidFaults(BadValue):
    """The value is no tuple of faults."""

    def __init__(self, given):
        self.given = given


class InvalidFlow(BadValue):
    """The value is no flow of the net."""

    def __init__(self, given):
        self.given = given


class InvalidWorld(BadValue):
    """The value is no world of the net."""

    def __init__(self, given):
        self.given = given


class InvalidReading(BadValue):
    """The value is no reading of the meter."""

    def __init__(self, given):
        self.given = given


class InvalidWish(BadValue):
    """The value is no wish."""

    def __init__(self, given):
        self.given = given


class InvalidIndex(BadValue):
    """The value is no index of a wish."""

    def __init__(self, given):
        self.given = given


class NotAMeter(BadValue):
    """The value is no Meter."""

    def __init__(self, given):
        self.given = given


class NotANet(BadValue):
    """The value is no Net."""

    def __init__(self, given):
        self.given = given


class NotASum(BadValue):
    """The value is no Sum."""

    def __init__(self, given):
        self.given = given


class NotARule(BadValue):
    """The value is no Rule."""

    def __init__(self, given):
        self.given = given


class NotAnEntry(BadValue):
    """The value is neither a Net nor a Rule."""

    def __init__(self, given):
        self.given = given


class InvalidPipes(BadValue):
    """The pipe at this index cannot stand in the net."""

    def __init__(self, index):
        self.index = index


class InvalidMeters(BadValue):
    """The meter at this index cannot stand in the net."""

    def __init__(self, index):
        self.index = index


class InvalidTerms(BadValue):
    """The element at this index is no pair of a name and an integer."""

    def __init__(self, index):
        self.index = index


class InvalidRows(BadValue):
    """The row at this index cannot stand in the rule."""

    def __init__(self, index):
        self.index = index


class InvalidReadings(BadValue):
    """The reading at this index is none of its meter."""

    def __init__(self, index):
        self.index = index


class InvalidOffers(BadValue):
    """The offer at this index cannot be taken by the net."""

    def __init__(self, index):
        self.index = index


class InvalidWishes(BadValue):
    """The element at this index is no tell wish for the net."""

    def __init__(self, index):
        self.index = index


class InvalidPrices(BadValue):
    """The price at this index is no integer from 0 on."""

    def __init__(self, index):
        self.index = index


class BadName(LookupError):
    """A name does not stand for what is asked for."""


class UnknownName(BadName):
    """Nothing has this name."""

    def __init__(self, given):
        self.given = given


class OtherMeters(BadName):
    """Just one of two nets has a meter of this name."""

    def __init__(self, given):
        self.given = given


class InUse(BadName):
    """The wish at this index names what is to be removed."""

    def __init__(self, index):
        self.index = index


class NoAnswer(ArithmeticError):
    """The arguments are right, but there is no answer to them."""


class TooMany(NoAnswer):
    """There is more to judge than this limit."""

    def __init__(self, limit):
        self.limit = limit


class NoWorld(NoAnswer):
    """No world with at most so many wrong meters has the readings."""

    def __init__(self, most):
        self.most = most


class NothingToUndo(NoAnswer):
    """No change is left that can be taken back."""


class Broken(NoAnswer):
    """The wish at this index would not hold."""

    def __init__(self, index):
        self.index = index
