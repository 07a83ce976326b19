"""Rankings of houses, which show that there is no ring for a wanted one."""

from askedways.ways import onward_of


def ranked(net, world, wanted):
    """A ranking for the wanted house, or None where there is a ring for it."""
    ranking = [wanted]
    waiting = [house for house in net[0] if house != wanted]
    while waiting:
        free = [house for house in waiting if stands_behind(net, world, wanted, ranking, house)]
        if free == []:
            return None
        ranking = ranking + free
        waiting = [house for house in waiting if house not in free]
    return ranking


def is_ranked(net, world, wanted, thing):
    """Whether this is a ranking for the wanted house, of whatever it is."""
    if not isinstance(thing, list) or len(thing) != len(net[0]) or thing[0] != wanted:
        return False
    # As many as there are houses: where all are among them, each is there once.
    if not all([house in thing for house in net[0]]):
        return False
    return all([stands_behind(net, world, wanted, thing[:place], house) for place, house in enumerate(thing)])


def stands_behind(net, world, wanted, ahead, house):
    """Whether the house may stand behind those ahead: it goes on by none, or by one of them."""
    onward = onward_of(net, world, house, wanted)
    return onward is None or onward in ahead
