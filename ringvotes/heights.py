"""Heights of places: they show that an amount for each pipe is nothing but a difference that no flow can see."""

from ringvotes.ways import meters_at


def amounts_of(net, total):
    """For each pipe, in their order, what the coefficients of its meters add up to in a sum."""
    return tuple([sum([total[meter.name] for meter in meters_at(net, part.name)]) for part in net.pipes])


def heights_for(net, amounts):
    """Heights by the places, such that the height of a pipe's end less that of its start is its amount.

    None if there are none: then a flow round some ring, each pipe multiplied with its amount, is not 0.
    """
    heights = {}
    for place in net.places:
        if place not in heights:
            heights[place] = 0
            _spread(net, amounts, heights)
    for part, amount in zip(net.pipes, amounts):
        if heights[part.end] - heights[part.start] != amount:
            return None
    return heights


def _spread(net, amounts, heights):
    """Gives heights to all places that pipes join to those that have one."""
    # No place is farther away than all pipes together, so this many rounds are enough.
    for _ in net.pipes:
        for part, amount in zip(net.pipes, amounts):
            if part.start in heights and part.end not in heights:
                heights[part.end] = heights[part.start] + amount
            if part.end in heights and part.start not in heights:
                heights[part.start] = heights[part.end] - amount
