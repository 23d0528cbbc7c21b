"""Flows of nets, readings of meters, and worlds, which are pairs of these."""

from ringvotes.basics import is_number
from ringvotes.checks import check_net, check_total
from ringvotes.errors import InvalidFlow, InvalidReadings, InvalidWorld


def is_flow(net, value):
    """Whether a value, whatever it is, is a flow of the net."""
    check_net(net)
    if not isinstance(value, tuple) or len(value) != len(net.pipes):
        return False
    if not all([is_number(amount) for amount in value]):
        return False
    return all([_kept_at(net, value, place) == 0 for place in net.places])


def readings_of(net, flow):
    """The readings in the world without faults that has this flow."""
    if not is_flow(net, flow):
        raise InvalidFlow(flow)
    amounts = {part.name: amount for part, amount in zip(net.pipes, flow)}
    return tuple([amounts[part.at] for part in net.meters])


def wrong_meters(net, world):
    """The ascending names of the meters that are wrong in a world."""
    check_net(net)
    check_world(net, world)
    flow, readings = world
    names = []
    for part, seen, true in zip(net.meters, readings, readings_of(net, flow)):
        if seen is not None and seen != true:
            names.append(part.name)
    return tuple(sorted(names))


def silent_meters(net, world):
    """The ascending names of the meters that are silent in a world."""
    check_net(net)
    check_world(net, world)
    return tuple(sorted(silent_names(net, world[1])))


def value_of(net, total, readings):
    """The value of a sum for readings, None if it is silent."""
    check_net(net)
    check_total(net, total)
    check_readings(net, readings)
    return value_in(by_name(net, readings), total)


def check_world(net, world):
    """Raises InvalidWorld if this is no world of the net."""
    if not is_world(net, world):
        raise InvalidWorld(world)


def check_readings(net, readings):
    """Raises InvalidReadings if these are no readings of the net."""
    if not isinstance(readings, tuple) or len(readings) != len(net.meters):
        raise InvalidReadings(None)
    for index, part in enumerate(net.meters):
        if not is_reading(part, readings[index]):
            raise InvalidReadings(index)


def is_world(net, value):
    """Whether a value, whatever it is, is a world of the net."""
    if not isinstance(value, tuple) or len(value) != 2:
        return False
    flow, readings = value
    return is_flow(net, flow) and are_readings(net, readings) and _seals_hold(net, flow, readings)


def are_readings(net, value):
    """Whether a value, whatever it is, are readings of the net."""
    try:
        check_readings(net, value)
    except InvalidReadings:
        return False
    return True


def is_reading(part, value):
    """Whether a value, whatever it is, may be the reading of this meter."""
    if value is None:
        return not part.sealed
    return is_number(value)


def silent_names(net, readings):
    """The names of the meters without a reading, in the order of the net."""
    return [part.name for part, seen in zip(net.meters, readings) if seen is None]


def by_name(net, readings):
    """The readings as a dict by the names of the meters."""
    return {part.name: seen for part, seen in zip(net.meters, readings)}


def value_in(shown, total):
    """The value of a sum for the readings in a dict, None if it is silent."""
    if any([shown[name] is None for name, number in total.terms]):
        return None
    return sum([number * shown[name] for name, number in total.terms])


def _kept_at(net, flow, place):
    """What comes in at a place, less what goes out."""
    comes = sum([amount for part, amount in zip(net.pipes, flow) if part.end == place])
    goes = sum([amount for part, amount in zip(net.pipes, flow) if part.start == place])
    return comes - goes


def _seals_hold(net, flow, readings):
    """Whether each sealed meter shows the flow of its pipe."""
    right = readings_of(net, flow)
    return all([seen == true for part, seen, true in zip(net.meters, readings, right) if part.sealed])
