"""Worlds: the states of all houses, and the letters on all ways."""

from askedways.letters import is_letter
from askedways.nets import ways_of
from askedways.shapes import is_tuple_of
from askedways.states import fresh_state, is_state


def is_world(net, thing):
    """Whether this is a world of the net, of whatever it is."""
    return is_tuple_of(thing, 2) and are_states(net, thing[0]) and are_flights(net, thing[1])


def fresh_world(net):
    """The world in which each house is fresh and no letter is on a way."""
    states = tuple([fresh_state() for house in net[0]])
    flights = tuple([() for way in ways_of(net)])
    return (states, flights)


def state_of(net, world, house):
    """The state of a house in a world."""
    return world[0][net[0].index(house)]


def flying(net, world, one, other):
    """The letters on the way from one house to another, in the order in which they were put there."""
    for way, letters in zip(ways_of(net), world[1]):
        if way == (one, other):
            return letters
    # Between houses that are no neighbours there is no way, so no letter.
    return ()


def are_states(net, thing):
    """Whether this is a tuple of a state of each house, in order."""
    houses = net[0]
    if not is_tuple_of(thing, len(houses)):
        return False
    return all([is_state(net, house, state) for house, state in zip(houses, thing)])


def are_flights(net, thing):
    """Whether this is a tuple of a tuple of letters for each way."""
    if not is_tuple_of(thing, len(ways_of(net))):
        return False
    return all([are_letters(net, part) for part in thing])


def are_letters(net, thing):
    """Whether this is a tuple of letters."""
    return isinstance(thing, tuple) and all([is_letter(net, part) for part in thing])
