"""States of houses that are up and down."""

from askedways.nets import neighbours_of
from askedways.shapes import are_numbered, is_numbered, is_rising, is_tuple_of, is_whole_from


def is_state(net, house, thing):
    """Whether this is a state of the house, of whatever it is."""
    if is_tuple_of(thing, 6) and thing[0] == "up":
        return is_up(net, house, thing)
    if is_tuple_of(thing, 4) and thing[0] == "down":
        return is_down(net, house, thing)
    return False


def fresh_state():
    """The state of a house that knows nothing yet."""
    return ("up", 0, 0, (), (), ())


def is_up(net, house, thing):
    """Whether the parts are those of a state of the house, up."""
    word, own, asks, table, seen, ties = thing
    if not is_whole_from(own, 0) or not is_whole_from(asks, 0):
        return False
    # Ties go first: whether a row is one hangs on them.
    return are_ties(net, house, ties) and is_table(net, house, ties, table) and is_seen(net, seen)


def is_down(net, house, thing):
    """Whether the parts are those of a state of the house, down."""
    word, own, asks, known = thing
    if not is_whole_from(own, 0) or not is_whole_from(asks, 0):
        return False
    return are_numbered(others_of(net, house), known)


def others_of(net, house):
    """All houses of the net but this one, in order."""
    return [other for other in net[0] if other != house]


def ties_in(state):
    """The ties in a state: of a house that is down none."""
    return state[5] if state[0] == "up" else ()


def are_ties(net, house, thing):
    """Whether this is a rising tuple of neighbours of the house."""
    neighbours = neighbours_of(net, house)
    if not isinstance(thing, tuple) or not all([part in neighbours for part in thing]):
        return False
    return is_rising(thing)


def is_table(net, house, ties, thing):
    """Whether this is a rising tuple of rows of the house, of no house two."""
    others = others_of(net, house)
    if not isinstance(thing, tuple) or not all([is_row(others, ties, part) for part in thing]):
        return False
    # By the houses alone: steps that are None can't be compared.
    return is_rising([row[0] for row in thing])


def is_row(others, ties, thing):
    """Whether this is a row of one of the others, broken or going on by one of the ties."""
    if not is_tuple_of(thing, 4):
        return False
    wanted, number, steps, onward = thing
    if wanted not in others or not is_whole_from(number, 1):
        return False
    if steps is None:
        return onward is None
    return is_whole_from(steps, 1) and onward in ties


def is_seen(net, thing):
    """Whether this is a rising tuple of (asker, ask), of a house perhaps several."""
    if not isinstance(thing, tuple) or not all([is_numbered(net[0], part) for part in thing]):
        return False
    return is_rising(thing)
