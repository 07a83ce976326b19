"""Worlds whose ties hold still, numbers that were kept, and turns in which all letters are taken."""

from askedways.deeds import world_done
from askedways.nets import ways_of
from askedways.sound import is_sound
from askedways.states import ties_in
from askedways.worlds import state_of


def is_still(net, world):
    """Whether a world is sound, without letters, and each tie is heard from both sides."""
    if has_letters(world) or not all([is_mutual(net, world, one, other) for one, other in net[1]]):
        return False
    return is_sound(net, world)


def has_kept(net, world):
    """Whether no house that is up has forgotten numbers that others know of it."""
    ups = {house: state for house, state in zip(net[0], world[0]) if state[0] == "up"}
    return all([is_known_by(ups, ups[house]) for house in ups])


def one_turn(net, world):
    """The world behind a turn, and how many letters were taken in it."""
    behind = world
    taken = 0
    # What is sent comes behind all that lie there, so the next one of those is always the first.
    for (one, other), letters in zip(ways_of(net), world[1]):
        word = "take" if state_of(net, world, other)[0] == "up" else "drop"
        for letter in letters:
            behind = world_done("kept", net, behind, (word, other, one, 0))
            taken += 1 if word == "take" else 0
    return (behind, taken)


def settled(net, world):
    """The world behind as many turns as it needs till no letter is on a way, how many, and the letters taken."""
    behind, turns, letters = world, 0, 0
    while has_letters(behind):
        behind, taken = one_turn(net, behind)
        turns += 1
        letters += taken
    return (behind, turns, letters)


def has_letters(world):
    """Whether a letter is on a way."""
    return any([letters != () for letters in world[1]])


def is_mutual(net, world, one, other):
    """Whether both houses, being up, have each other among their ties, or neither that is up has."""
    # A house that is down has no ties: so a tie to it is never heard from both sides.
    heard = other in ties_in(state_of(net, world, one))
    return heard == (one in ties_in(state_of(net, world, other)))


def is_known_by(ups, state):
    """Whether what a house knows of the others that are up is no more than these know themselves."""
    rows = [row for row in state[3] if row[0] in ups]
    seen = [(asker, ask) for asker, ask in state[4] if asker in ups]
    if not all([ask <= ups[asker][2] for asker, ask in seen]):
        return False
    # A row is broken by its number and one: so much it may be ahead.
    return all([row[1] <= ups[row[0]][1] + (1 if row[2] is None else 0) for row in rows])
