"""Whether two nets have the same readings."""

from ringvotes.checks import check_net, check_same_meters
from ringvotes.fits import fitting_readings, readings_in
from ringvotes.rings import rings_of


def same_readings(net, other):
    """Whether two nets have the same readings."""
    return parting_flow(net, other) is None


def parting_flow(net, other):
    """The index of one of two nets and a flow of it whose readings the other one has not; None if there is none."""
    check_net(net)
    check_net(other)
    check_same_meters(net, other)
    for which, (one, two) in enumerate(((net, other), (other, net))):
        for flow in rings_of(one):
            if fitting_readings(two, readings_in(two, one, flow)) is None:
                return (which, flow)
    return None
