"""Deeds: whether one can be done in a world, and the world behind it."""

from askedways.doing import done_by_itself, why_not_by_itself
from askedways.errors import NoDeed
from askedways.letters import are_unlike
from askedways.nets import neighbours_of, ways_of
from askedways.shapes import is_whole_from
from askedways.states import fresh_state, ties_in
from askedways.taking import takes_letter
from askedways.worlds import flying, state_of

# The words of deeds, by what stands behind the house.
ALONE = ("stop", "up")
WITH_NEIGHBOUR = ("find", "lose")
WITH_HOUSE = ("ask", "fail", "note")
WITH_PLACE = ("take", "drop", "twice")
# What may be done where the house is down.
WHILE_DOWN = ("drop", "twice", "up")


def why_not(rule, net, world, deed):
    """Why this can't be done in the world, or None, of whatever it is as deed."""
    if not is_deed(net, deed):
        return "kind"
    word, house = deed[0], deed[1]
    state = state_of(net, world, house)
    if state[0] == "down" and word not in WHILE_DOWN:
        return "down"
    if word == "stop":
        return None
    if word == "up":
        return why_not_up(rule, net, world, house)
    if word in WITH_PLACE:
        return None if deed[3] < len(flying(net, world, deed[2], house)) else "letter"
    return why_not_by_itself(state, deed)


def world_behind(rule, net, world, deed):
    """The world behind this deed, of whatever it is; refused where it can't be done."""
    why = why_not(rule, net, world, deed)
    if why is not None:
        raise NoDeed(why)
    return world_done(rule, net, world, deed)


def is_deed(net, thing):
    """Whether this is a deed of the net, of whatever it is."""
    if not isinstance(thing, tuple) or len(thing) < 2 or thing[1] not in net[0]:
        return False
    word, house = thing[0], thing[1]
    if word in ALONE:
        return len(thing) == 2
    if word in WITH_HOUSE:
        return len(thing) == 3 and are_unlike(net[0], house, thing[2])
    if word in WITH_NEIGHBOUR:
        return len(thing) == 3 and thing[2] in neighbours_of(net, house)
    if word not in WITH_PLACE or len(thing) != 4:
        return False
    return thing[2] in neighbours_of(net, house) and is_whole_from(thing[3], 0)


def why_not_up(rule, net, world, house):
    """Why the house can't come up in the world, or None."""
    if state_of(net, world, house)[0] == "up":
        return "up"
    return "wait" if rule == "wait" and is_awaited(net, world, house) else None


def is_awaited(net, world, house):
    """Whether the house is still among the ties of one that is up, or a letter is on a way from it."""
    if any([house in ties_in(state) for state in world[0]]):
        return True
    return any([way[0] == house and letters != () for way, letters in zip(ways_of(net), world[1])])


def world_done(rule, net, world, deed):
    """The world behind a deed that can be done."""
    states, flights = world
    behind, gone, put = parts_done(rule, net, world, deed)
    moved = [behind if house == deed[1] else state for house, state in zip(net[0], states)]
    return (tuple(moved), flights_behind(net, flights, gone, put))


def parts_done(rule, net, world, deed):
    """What a deed that can be done changes: the state of its house, what leaves the ways, what is put there."""
    house = deed[1]
    behind, sent = house_done(rule, net, world, deed)
    put = [((house, other), letter) for other, letter in sent]
    if deed[0] == "twice":
        put = [((deed[2], house), flying(net, world, deed[2], house)[deed[3]])]
    return (behind, gone_by(net, world, deed), put)


def house_done(rule, net, world, deed):
    """The state of the house behind its deed, and what it sends."""
    word, house = deed[0], deed[1]
    state = state_of(net, world, house)
    if word in ("drop", "twice"):
        return (state, [])
    if word == "take":
        return takes_letter(state, house, deed[2], flying(net, world, deed[2], house)[deed[3]])
    if word == "stop":
        return (stopped(state), [])
    if word == "up":
        return (come_up(rule, state), [])
    return done_by_itself(state, deed)


def stopped(state):
    """The state of a house that was up, behind its stop."""
    word, own, asks, table, seen, ties = state
    # By one more: whoever learnt by a row that held is then farther than what the house comes up with.
    known = [(row[0], row[1] if row[2] is None else row[1] + 1) for row in table]
    return ("down", own, asks, tuple(known))


def come_up(rule, state):
    """The state of a house that was down, behind its coming up."""
    if rule != "kept":
        return fresh_state()
    word, own, asks, known = state
    rows = [(wanted, number, None, None) for wanted, number in known]
    return ("up", own, asks, tuple(rows), (), ())


def gone_by(net, world, deed):
    """The letters that leave their ways by a deed, a list of (way, place)."""
    word, house = deed[0], deed[1]
    if word in ("take", "drop"):
        return [((deed[2], house), deed[3])]
    if word == "lose":
        return all_on(net, world, [(deed[2], house)])
    if word == "stop":
        return all_on(net, world, [(other, house) for other in neighbours_of(net, house)])
    return []


def all_on(net, world, ways):
    """All letters on these ways, a list of (way, place)."""
    return [(way, place) for way in ways for place in range(len(flying(net, world, way[0], way[1])))]


def flights_behind(net, flights, gone, put):
    """What is on each way: without what is gone, what is put there behind all."""
    return tuple([way_behind(way, things, gone, put) for way, things in zip(ways_of(net), flights)])


def way_behind(way, things, gone, put):
    """What is on one way behind that."""
    kept = [thing for place, thing in enumerate(things) if (way, place) not in gone]
    added = [thing for on, thing in put if on == way]
    return tuple(kept + added)
