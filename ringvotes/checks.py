"""Checks of the arguments that many functions share."""

from ringvotes.basics import is_number
from ringvotes.errors import (
    InvalidFaults,
    InvalidNumber,
    InvalidPrices,
    NotANet,
    NotASum,
    OtherMeters,
    UnknownName,
)
from ringvotes.limits import MOST_FAULTS
from ringvotes.nets import Net
from ringvotes.sums import Sum


def check_net(net):
    """Raises NotANet if this is no Net."""
    if not isinstance(net, Net):
        raise NotANet(net)


def check_pipe(net, pipe):
    """Raises UnknownName if the net has no pipe with this name."""
    net.pipe(pipe)


def check_total(net, total):
    """Raises NotASum if this is no Sum, UnknownName if it has a meter that the net does not have."""
    if not isinstance(total, Sum):
        raise NotASum(total)
    check_meters(net, [term[0] for term in total.terms])


def check_meters(net, names):
    """Raises UnknownName with the first one of these names that is no meter of the net."""
    for name in names:
        if name not in net:
            raise UnknownName(name)


def check_faults(faults):
    """Raises InvalidFaults if this is no tuple of faults."""
    if not are_faults(faults):
        raise InvalidFaults(faults)


def check_number(number):
    """Raises InvalidNumber if this is no number of meters as faults have them."""
    if not is_bound(number):
        raise InvalidNumber(number)


def check_prices(net, prices):
    """Raises InvalidPrices if this is no tuple with a price for each pipe."""
    if not isinstance(prices, tuple) or len(prices) != len(net.pipes):
        raise InvalidPrices(None)
    for index, price in enumerate(prices):
        if not is_number(price) or price < 0:
            raise InvalidPrices(index)


def check_same_meters(net, other):
    """Raises OtherMeters with the first name of a meter that just one of two nets has."""
    for name in sorted([part.name for part in net.meters + other.meters]):
        if name not in net or name not in other:
            raise OtherMeters(name)


def is_bound(value):
    """Whether a value, whatever it is, is a number of meters as faults have them."""
    return is_number(value) and 0 <= value <= MOST_FAULTS


def are_faults(value):
    """Whether a value, whatever it is, is a tuple (healed, noticed, silent)."""
    if not isinstance(value, tuple) or len(value) != 3:
        return False
    return all([is_bound(number) for number in value]) and value[0] <= value[1]


def are_prices(net, value):
    """Whether a value, whatever it is, is a tuple with a price for each pipe."""
    try:
        check_prices(net, value)
    except InvalidPrices:
        return False
    return True
