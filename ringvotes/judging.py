"""Whether rules are right, and whether two of them have the same outcomes, in all worlds with so many faults."""

from ringvotes.checks import check_faults, check_net, check_number, check_pipe
from ringvotes.pairs import all_pairs, check_pairs, greatest_pairs
from ringvotes.rings import rings_of
from ringvotes.rules import check_rule
from ringvotes.runs import TELL
from ringvotes.searching import Search
from ringvotes.spaces import Space


def is_right(net, pipe, rule, faults):
    """Whether a rule is right for a pipe and faults."""
    _check_judged(net, pipe, rule, faults)
    return _fooled_within(net, pipe, rule, faults[0], greatest_pairs(net, faults)) is None


def fooled(net, pipe, rule, faults):
    """A world that fools a rule, with as few wrong and then as few silent meters as possible; None if it is right."""
    if is_right(net, pipe, rule, faults):
        return None
    return _fooled_within(net, pipe, rule, faults[0], all_pairs(net, faults[1], faults[2]))


def alike(net, one, two, *, wrong=0, silent=0):
    """Whether two rules have the same outcome in all worlds with at most so many wrong and silent meters."""
    return parting(net, one, two, wrong=wrong, silent=silent) is None


def parting(net, one, two, *, wrong=0, silent=0):
    """A world in which the outcomes differ, with as few wrong and then as few silent meters as possible, or None."""
    check_net(net)
    check_rule(net, one)
    check_rule(net, two)
    _check_bounds(net, wrong, silent)
    rings = rings_of(net)
    for pair in all_pairs(net, wrong, silent):
        space = Space(net, rings, pair[0], pair[1])
        world = Search(space, (space.steps_of(one), space.steps_of(two))).parting(True)
        if world is not None:
            return world
    return None


def rows_used(net, rule, *, wrong=0, silent=0):
    """The ascending indexes of the rows to which a rule comes in some world with so many faults."""
    check_net(net)
    check_rule(net, rule)
    _check_bounds(net, wrong, silent)
    rings = rings_of(net)
    rows = {}
    for pair in greatest_pairs(net, (wrong, wrong, silent)):
        space = Space(net, rings, pair[0], pair[1])
        search = Search(space, (space.steps_of(rule),))
        search.parting(True)
        rows.update(search.come_to)
    return tuple(sorted(list(rows)))


def _check_judged(net, pipe, rule, faults):
    """Raises the error of the first argument that is wrong, TooMany if there is too much to judge."""
    check_net(net)
    check_pipe(net, pipe)
    check_rule(net, rule)
    check_faults(faults)
    check_pairs(net, faults[1], faults[2])


def _check_bounds(net, wrong, silent):
    """Raises InvalidNumber with the first bound that is none, TooMany if there is too much to judge."""
    check_number(wrong)
    check_number(silent)
    check_pairs(net, wrong, silent)


def _fooled_within(net, pipe, rule, healed, pairs):
    """A world that fools a rule, the first one that is found with these sets of wrong and silent meters; or None."""
    rings = rings_of(net)
    for wrong, silent in pairs:
        space = Space(net, rings, wrong, silent)
        # The flow of the pipe is what a second rule would tell that knows it.
        flow = ((TELL, 0, (space.form_at(pipe),)),)
        world = Search(space, (space.steps_of(rule), flow)).parting(len(wrong) <= healed)
        if world is not None:
            return world
    return None
