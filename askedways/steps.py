"""Steps from a world by doings and letters, and all worlds that come of them."""

from askedways.deeds import why_not, world_done
from askedways.errors import TooMany
from askedways.nets import ways_of
from askedways.runs import end_of

MOST_WORLDS = 300


def steps_from(rule, net, world, left, *, overtake=False):
    """All steps from a world with these doings left: a list of (deed, world behind it, doings left then)."""
    done = [(doing, left[:at] + left[at + 1:]) for at, doing in enumerate(left)]
    taken = [(deed, left) for deed in takes_in(net, world, overtake)]
    return [(deed, world_done(rule, net, world, deed), rest) for deed, rest in done + taken
            if why_not(rule, net, world, deed) is None]


def all_worlds(run, doings, *, overtake=False, limit=MOST_WORLDS):
    """All (world, left) that come of a run's last world and these doings; refused where they are too many."""
    return list(led_to(run, doings, overtake, limit))


def takes_in(net, world, overtake):
    """The deeds that take a letter, the first on its way or, by overtaking, any, by ways and places."""
    deeds = []
    for (one, other), letters in zip(ways_of(net), world[1]):
        lying = len(letters) if overtake else min(1, len(letters))
        deeds += [("take", other, one, place) for place in range(lying)]
    return deeds


def led_to(run, doings, overtake, limit):
    """By (world, left) the (deed, (world, left) ahead) that led there first, None for the first one of all."""
    rule, net, deeds = run
    first = (end_of(run), doings)
    led = {first: None}
    edge = [first]
    # All that are as many steps away at once: so each is led to by as few steps as can be.
    while edge:
        beyond = []
        for ahead in edge:
            for deed, world, left in steps_from(rule, net, ahead[0], ahead[1], overtake=overtake):
                if (world, left) not in led:
                    led[(world, left)] = (deed, ahead)
                    beyond.append((world, left))
            if len(led) > limit:
                raise TooMany(limit)
        edge = beyond
    return led
