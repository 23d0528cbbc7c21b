"""Which meters may be wrong if given readings are seen, and what is sure nevertheless."""

from ringvotes.checks import check_net, check_number, check_pipe
from ringvotes.errors import NoWorld
from ringvotes.fits import fitting_readings, shown_amounts
from ringvotes.pairs import subsets, unsealed
from ringvotes.rings import fitting_flow, joined
from ringvotes.worlds import check_readings, silent_names


def explanations(net, readings, most):
    """All least sets of at most so many meters that explain readings, small ones first."""
    check_net(net)
    check_readings(net, readings)
    check_number(most)
    found = []
    for many in range(most + 1):
        for chosen in subsets(_doubtful(net, readings), many):
            lesser = [part for part in found if all([name in chosen for name in part])]
            if not lesser and fitting_readings(net, readings, chosen) is not None:
                found.append(chosen)
    return tuple(found)


def sure(net, readings, pipe, most=0):
    """The flow of a pipe if it is the same in all worlds with these readings and at most so many wrong meters."""
    check_net(net)
    check_readings(net, readings)
    check_pipe(net, pipe)
    check_number(most)
    names = _doubtful(net, readings)
    # With fewer wrong meters there are no other worlds than with as many as possible.
    flows = [_flow_at(net, readings, pipe, wrong) for wrong in subsets(names, min(most, len(names)))]
    told = [flow for flow in flows if flow != ()]
    if not told:
        raise NoWorld(most)
    return told[0][0] if all([flow == told[0] for flow in told]) else None


def surely_wrong(net, readings, most=0):
    """The ascending names of the meters that are wrong in all worlds with these readings and so many wrong ones."""
    found = explanations(net, readings, most)
    if not found:
        raise NoWorld(most)
    return tuple([name for name in found[0] if all([name in part for part in found])])


def _doubtful(net, readings):
    """The ascending names of the meters that may be wrong."""
    silent = silent_names(net, readings)
    return tuple([name for name in unsealed(net) if name not in silent])


def _flow_at(net, readings, pipe, wrong):
    """A tuple with the flow of a pipe if all other meters are right, or with None if it may be any.

    It has nothing in it if not all other meters can be right.
    """
    amounts = shown_amounts(net, readings, wrong)
    flow = None if amounts is None else fitting_flow(net, amounts)
    if flow is None:
        return ()
    if pipe in amounts:
        return (amounts[pipe],)
    # A ring of pipes without readings can be added to the flow.
    others = [part for part in net.pipes if part.name not in amounts and part.name != pipe]
    marks = joined(net, others)
    itself = net.pipe(pipe)
    return (None if marks[itself.start] == marks[itself.end] else flow[net.pipes.index(itself)],)
