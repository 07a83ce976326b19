"""Searching all runs by some doings for a ring, and looking through what such a search told."""

from askedways.deeds import why_not, world_done
from askedways.runs import end_of
from askedways.shapes import is_tuple_of
from askedways.steps import MOST_WORLDS, led_to, steps_from
from askedways.ways import ring_in
from askedways.worlds import is_world


def ring_run(run, doings, *, overtake=False, limit=MOST_WORLDS):
    """("ring", deeds), as few as lead to a world with a ring, or ("none", all worlds); refused where too many."""
    led = led_to(run, doings, overtake, limit)
    for place in led:
        if ring_in(run[1], place[0]) is not None:
            return ("ring", deeds_to(led, place))
    return ("none", list(led))


def lets_search(run, doings, thing, *, overtake=False):
    """Whether this, of whatever it is, shows that there is a ring, or that there is none."""
    if not is_tuple_of(thing, 2):
        return False
    word, paper = thing
    if word == "ring":
        return shows_ring(run, doings, paper, overtake)
    return word == "none" and shows_none(run, doings, paper, overtake)


def deeds_to(led, place):
    """The deeds that led to this (world, left) first, a tuple."""
    deeds = []
    step = led[place]
    while step is not None:
        deeds.append(step[0])
        step = led[step[1]]
    return tuple(deeds[::-1])


def shows_ring(run, doings, paper, overtake):
    """Whether this is a tuple of steps behind a run, one behind the other, to a world with a ring."""
    if not isinstance(paper, tuple):
        return False
    rule, net, deeds = run
    world, left = end_of(run), doings
    for deed in paper:
        if not is_step(rule, net, world, left, deed, overtake):
            return False
        world = world_done(rule, net, world, deed)
        left = tuple([doing for doing in left if doing != deed])
    return ring_in(net, world) is not None


def is_step(rule, net, world, left, deed, overtake):
    """Whether this, of whatever it is, is a step from a world with these doings left."""
    if why_not(rule, net, world, deed) is not None:
        return False
    if deed[0] == "take":
        return overtake or deed[3] == 0
    return deed in left


def shows_none(run, doings, paper, overtake):
    """Whether this is a list of (world, left) with the first one, out of which no step leads, none with a ring."""
    rule, net, deeds = run
    if not isinstance(paper, list) or not all([is_place(net, doings, part) for part in paper]):
        return False
    places = {part: True for part in paper}
    if len(places) != len(paper) or (end_of(run), doings) not in places:
        return False
    for world, left in paper:
        steps = steps_from(rule, net, world, left, overtake=overtake)
        if ring_in(net, world) is not None or not all([(behind, rest) in places for deed, behind, rest in steps]):
            return False
    return True


def is_place(net, doings, thing):
    """Whether this is a tuple of a world of the net and some of the doings, in order."""
    if not is_tuple_of(thing, 2) or not is_world(net, thing[0]) or not isinstance(thing[1], tuple):
        return False
    return thing[1] == tuple([doing for doing in doings if doing in thing[1]])
