"""The one place for what the other modules share: shapes of things of whatever kind, and copies of them."""

from askedways.names import is_whole


def is_tuple_of(thing, size):
    """Whether this is a tuple of so many parts."""
    return isinstance(thing, tuple) and len(thing) == size


def is_whole_from(thing, least):
    """Whether this is a whole number, no less than least."""
    return is_whole(thing) and thing >= least


def is_rising(things):
    """Whether these, which can be compared, are sorted, each once."""
    return all([one < other for one, other in zip(things, things[1:])])


def is_numbered(houses, thing):
    """Whether this is a tuple (house, number), number from 1 on."""
    return is_tuple_of(thing, 2) and thing[0] in houses and is_whole_from(thing[1], 1)


def are_numbered(houses, thing):
    """Whether this is a rising tuple of (house, number), of no house two."""
    if not isinstance(thing, tuple) or not all([is_numbered(houses, part) for part in thing]):
        return False
    # Houses that rise by themselves are a rising tuple with no house twice.
    return is_rising([house for house, number in thing])


def is_same(thing, told):
    """Whether a thing of whatever kind is just what was told: a truth is no number, a list no tuple."""
    if isinstance(told, (list, tuple)):
        if isinstance(told, list) != isinstance(thing, list) or isinstance(told, tuple) != isinstance(thing, tuple):
            return False
        return len(thing) == len(told) and all([is_same(part, other) for part, other in zip(thing, told)])
    return thing == told and isinstance(thing, bool) == isinstance(told, bool)


def copied(thing):
    """A copy of plain things, down to the innermost, that nothing done to the first one changes."""
    if isinstance(thing, list):
        return [copied(part) for part in thing]
    if isinstance(thing, tuple):
        return tuple([copied(part) for part in thing])
    if isinstance(thing, dict):
        return {key: copied(thing[key]) for key in thing}
    return thing
