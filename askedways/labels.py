"""Labels: what a house knows of another one, and which of two labels is nearer."""

from askedways.shapes import is_tuple_of, is_whole_from


def is_label(thing):
    """Whether this is a label, of whatever it is."""
    if thing is None:
        return True
    if not is_tuple_of(thing, 2) or not is_whole_from(thing[0], 1):
        return False
    return thing[1] is None or is_whole_from(thing[1], 0)


def is_nearer(one, other):
    """Whether the first label is nearer than the second one."""
    if one is None or other is None:
        return one is not None
    number, steps = one
    other_number, other_steps = other
    if number != other_number:
        return number > other_number
    return steps is not None and (other_steps is None or other_steps > steps)


def row_in(state, wanted):
    """The row of the wanted house in a state, broken or not, or None."""
    if state[0] == "down":
        return None
    for row in state[3]:
        if row[0] == wanted:
            return row
    return None


def live_row_in(state, wanted):
    """The row of the wanted house in a state where it isn't broken, or None."""
    row = row_in(state, wanted)
    if row is None or row[2] is None:
        return None
    return row


def label_in(state, house, wanted):
    """The label for the wanted house in the state of a house."""
    if house == wanted:
        own = state[1]
        return None if own == 0 else (own, 0)
    row = row_in(state, wanted)
    return None if row is None else (row[1], row[2])
