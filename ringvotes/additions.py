"""Which offered meters, or meters at which pipes, make it possible to tell what is wished."""

from ringvotes.basics import is_name
from ringvotes.checks import are_faults, check_net, check_prices
from ringvotes.errors import InvalidOffers, InvalidWishes
from ringvotes.limits import MOST_METERS, MOST_OFFERS
from ringvotes.nets import Meter
from ringvotes.pairs import subsets
from ringvotes.rings import split
from ringvotes.strengths import can_tell
from ringvotes.ways import meters_at


def additions(net, offers, wishes):
    """All least sets of offers that grant the tell wishes, as tuples of their indexes, small ones first."""
    check_net(net)
    _check_offers(net, offers)
    _check_wishes(net, wishes)
    found = []
    for many in range(len(offers) + 1):
        for chosen in subsets(tuple(range(len(offers))), many):
            lesser = [part for part in found if all([index in chosen for index in part])]
            if not lesser and _grants(net, [offers[index] for index in chosen], wishes):
                found.append(chosen)
    return tuple(found)


def cheapest(net, prices):
    """The ascending names of pipes without meters that need one, at a total price as low as possible.

    With these each pipe of the net can be told if no meter is wrong or silent.
    """
    check_net(net)
    check_prices(net, prices)
    return tuple(sorted([part.name for part in split_by_price(net, prices)[1]]))


def split_by_price(net, prices):
    """Two lists of the pipes without meters: those that need none, and the cheapest ones that do."""
    # Of each ring of pipes without meters one needs a meter: the cheapest one, if the others come before it.
    ranks = sorted([(-price, index) for index, price in enumerate(prices)])
    parts = [net.pipes[index] for _, index in ranks]
    return split(net, [part for part in parts if not meters_at(net, part.name)])


def _check_offers(net, offers):
    """Raises InvalidOffers if these are no offers for the net."""
    if not isinstance(offers, tuple):
        raise InvalidOffers(None)
    names = []
    for index, offer in enumerate(offers):
        if index >= MOST_OFFERS or not isinstance(offer, Meter) or offer.name in names:
            raise InvalidOffers(index)
        names.append(offer.name)
        further = [name for name in names if name not in net]
        if not _has_pipe(net, offer.at) or (offer.name in further and len(net.meters) + len(further) > MOST_METERS):
            raise InvalidOffers(index)


def _check_wishes(net, wishes):
    """Raises InvalidWishes if these are no tell wishes for the net."""
    if not isinstance(wishes, tuple):
        raise InvalidWishes(None)
    for index, wish in enumerate(wishes):
        if not isinstance(wish, tuple) or len(wish) != 2:
            raise InvalidWishes(index)
        if not _has_pipe(net, wish[0]) or not are_faults(wish[1]):
            raise InvalidWishes(index)


def _has_pipe(net, name):
    """Whether this value, whatever it is, is the name of a pipe of the net."""
    return is_name(name) and name in [part.name for part in net.pipes]


def _grants(net, offers, wishes):
    """Whether the wishes are granted in the net with these offers."""
    for offer in offers:
        net = net + offer
    return all([can_tell(net, pipe, faults) for pipe, faults in wishes])
