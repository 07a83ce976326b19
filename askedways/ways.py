"""Ways from house to house by the tables of a world, their falls, and rings."""

from askedways.labels import label_in, live_row_in
from askedways.shapes import is_tuple_of
from askedways.worlds import state_of


def way_to(net, world, house, wanted):
    """The way from a house to another one: how it ends, and its houses."""
    houses = [house]
    while houses[-1] != wanted:
        onward = onward_of(net, world, houses[-1], wanted)
        if onward is None:
            return ("lost", houses)
        if onward in houses:
            return ("round", [*houses, onward])
        houses.append(onward)
    return ("there", houses)


def fall_of(net, world, house, wanted):
    """The label for the wanted house of each house of a way but the last."""
    word, houses = way_to(net, world, house, wanted)
    return [label_in(state_of(net, world, passed), passed, wanted) for passed in houses[:-1]]


def ring_in(net, world):
    """A ring of a world, of the first wanted house, from the first house in one on, or None."""
    for wanted in net[0]:
        for house in net[0]:
            word, houses = way_to(net, world, house, wanted)
            # A way may come into a ring from outside: only back at its first house is it the ring itself.
            if word == "round" and houses[-1] == house:
                return (wanted, houses[:-1])
    return None


def is_ring(net, world, thing):
    """Whether this is a ring of a world, begun at whichever of its houses, of whatever it is."""
    if not is_tuple_of(thing, 2) or thing[0] not in net[0]:
        return False
    wanted, houses = thing
    if not isinstance(houses, list) or houses == [] or houses[0] not in net[0]:
        return False
    return way_to(net, world, houses[0], wanted) == ("round", [*houses, houses[0]])


def onward_of(net, world, house, wanted):
    """The next of a house's row for the wanted one, or None where it is down or has no row that isn't broken."""
    row = live_row_in(state_of(net, world, house), wanted)
    return None if row is None else row[3]
