"""The sets of meters that may be wrong or silent."""

from math import comb

from ringvotes.errors import TooMany
from ringvotes.limits import MOST_PAIRS


def unsealed(net):
    """The ascending names of the meters without a seal."""
    return tuple(sorted([part.name for part in net.meters if not part.sealed]))


def subsets(names, many):
    """All tuples of so many of these names, in the order of the names; ascending if the names are."""
    if many == 0:
        return [()]
    found = []
    for index, name in enumerate(names):
        found.extend([(name,) + rest for rest in subsets(names[index + 1:], many - 1)])
    return found


def check_pairs(net, wrong, silent):
    """Raises TooMany if there are too many pairs of sets of so many wrong and silent meters."""
    many = len(unsealed(net))
    pairs = 0
    for taken in range(min(wrong, many) + 1):
        pairs += comb(many, taken) * sum([comb(many - taken, more) for more in range(silent + 1)])
    if pairs > MOST_PAIRS:
        raise TooMany(MOST_PAIRS)


def all_pairs(net, wrong, silent):
    """All pairs of sets of so many wrong and silent meters at most, those with few wrong and few silent ones first."""
    names = unsealed(net)
    found = []
    for many in range(wrong + 1):
        for more in range(silent + 1):
            for chosen in subsets(names, many):
                found.extend([(chosen, hushed) for hushed in subsets(_others(names, chosen), more)])
    return found


def greatest_pairs(net, faults):
    """The pairs of sets of wrong and silent meters by which a rule is judged: no other wrong meters are worse.

    The sets of wrong meters are as great as `healed` or as `noticed` allows.
    """
    healed, noticed, silent = faults
    names = unsealed(net)
    found = []
    for more in range(silent + 1):
        for hushed in subsets(names, more):
            others = _others(names, hushed)
            found.extend([(chosen, hushed) for chosen in subsets(others, min(healed, len(others)))])
            if min(noticed, len(others)) > healed:
                found.extend([(chosen, hushed) for chosen in subsets(others, min(noticed, len(others)))])
    return found


def _others(names, chosen):
    """Those of the names that are not chosen."""
    return tuple([name for name in names if name not in chosen])
