"""Forms of sums and pipes: an integer for each pipe, in their order, and behind these one for each meter in `wrong`."""

from ringvotes.heights import amounts_of
from ringvotes.sums import Sum


def form_of(net, wrong, total):
    """The form of a sum if no meters but those of `wrong` may be wrong."""
    trusted = Sum(tuple([term for term in total.terms if term[0] not in wrong]))
    return amounts_of(net, trusted) + tuple([total[name] for name in wrong])


def form_at(net, wrong, pipe):
    """The form of a pipe."""
    return tuple([1 if part.name == pipe else 0 for part in net.pipes]) + (0,) * len(wrong)
