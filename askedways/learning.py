"""How a house learns what a neighbour claims, and how it breaks a row."""

from askedways.labels import is_nearer, label_in, live_row_in


def learnt(state, house, wanted, label, other):
    """The state of the house behind learning this claim for the wanted house from the other one."""
    number, steps = label
    if house == wanted or not is_nearer((number, steps + 1), label_in(state, house, wanted)):
        return state
    return with_row(state, (wanted, number, steps + 1, other))


def broken_by(state, wanted, number):
    """The state behind breaking the row of the wanted house by this number."""
    row = live_row_in(state, wanted)
    if row is None or number <= row[1]:
        return state
    return with_row(state, (wanted, number, None, None))


def with_row(state, row):
    """The state with this row in the place of what it had of the same house."""
    word, own, asks, table, seen, ties = state
    others = [kept for kept in table if kept[0] != row[0]]
    return (word, own, asks, tuple(sorted([*others, row])), seen, ties)
