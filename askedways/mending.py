"""Mending a way near by: a house on it asks, and those that go by it learn by a note."""

from askedways.asking import asks_till, settled_behind
from askedways.errors import NoWay
from askedways.ways import way_to


def mended(net, world, house, wanted, *, goer):
    """The settled world behind it, and how many steps the goer's way was, and is, None where it isn't there."""
    word, found, asks, houses = asks_till(net, world, house, wanted)
    if word == "lack":
        raise NoWay("the mending house finds no way")
    behind = settled_behind(net, found, ("note", house, wanted))[0]
    return (behind, steps_to(net, world, goer, wanted), steps_to(net, behind, goer, wanted))


def steps_to(net, world, house, wanted):
    """How many steps the way from a house to the wanted one has, or None where it isn't there."""
    word, houses = way_to(net, world, house, wanted)
    return len(houses) - 1 if word == "there" else None
