"""Nets: the houses, and the pairs of them that may be tied."""

from askedways.names import is_name
from askedways.shapes import is_rising, is_tuple_of

FEWEST_HOUSES = 2
MOST_HOUSES = 5


def is_net(thing):
    """Whether this is a net, of whatever it is."""
    return is_tuple_of(thing, 2) and are_houses(thing[0]) and are_pairs(thing[0], thing[1])


def are_houses(thing):
    """Whether this is a rising tuple of names, as many as a net may have."""
    if not isinstance(thing, tuple) or not FEWEST_HOUSES <= len(thing) <= MOST_HOUSES:
        return False
    return all([is_name(part) for part in thing]) and is_rising(thing)


def are_pairs(houses, thing):
    """Whether this is a rising tuple of pairs of these houses."""
    if not isinstance(thing, tuple):
        return False
    return all([is_pair(houses, part) for part in thing]) and is_rising(thing)


def is_pair(houses, thing):
    """Whether this is a tuple of two of these houses, the first below the second."""
    return is_tuple_of(thing, 2) and thing[0] in houses and thing[1] in houses and thing[0] < thing[1]


def neighbours_of(net, house):
    """The houses with which this one stands in a pair, a rising list."""
    return [other for one, other in ways_of(net) if one == house]


def ways_of(net):
    """Each pair both ways about, a rising list."""
    turned = [(other, one) for one, other in net[1]]
    return sorted([*net[1], *turned])
