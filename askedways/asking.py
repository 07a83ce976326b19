"""Asking for a way where ties hold still: once, and till it is found or its lack is shown."""

from askedways.deeds import world_done
from askedways.errors import NoWorld
from askedways.labels import live_row_in
from askedways.shapes import is_rising
from askedways.states import ties_in
from askedways.still import has_kept, is_still, settled
from askedways.ways import way_to
from askedways.worlds import state_of


def asks_once(net, world, house, wanted):
    """The settled world behind an asking, in how many turns, and by how many letters."""
    if not is_still(net, world) or state_of(net, world, house)[0] == "down":
        raise NoWorld("the world isn't still, or the house that asks is down")
    return settled_behind(net, world, ("ask", house, wanted))


def asks_till(net, world, house, wanted):
    """("found", world, asks, way), or ("lack", world, asks, houses) where the house can't come to the wanted one."""
    if not is_still(net, world) or not has_kept(net, world) or state_of(net, world, house)[0] == "down":
        raise NoWorld("the world isn't still, has forgotten numbers, or the house that asks is down")
    behind, asks = world, 0
    word, way = way_to(net, behind, house, wanted)
    while word != "there":
        if asks > 0 and not has_row(net, behind, house, wanted):
            return ("lack", behind, asks, come_to(net, behind, house))
        behind = asked_anew(net, behind, house, wanted)
        asks += 1
        word, way = way_to(net, behind, house, wanted)
    return ("found", behind, asks, way)


def shows_lack(net, world, house, wanted, thing):
    """Whether this, of whatever it is, is a set of houses out of which no tie leads, the wanted one not in it."""
    if not isinstance(thing, tuple) or not all([part in net[0] for part in thing]) or not is_rising(thing):
        return False
    if house not in thing or wanted in thing:
        return False
    return all([tie in thing for inner in thing for tie in ties_in(state_of(net, world, inner))])


def settled_behind(net, world, deed):
    """The settled world behind a deed, in how many turns, and by how many letters."""
    return settled(net, world_done("kept", net, world, deed))


def asked_anew(net, world, house, wanted):
    """The settled world behind failing by a row that leads nowhere, where there is one, and asking."""
    behind = world
    if has_row(net, behind, house, wanted):
        behind = settled_behind(net, behind, ("fail", house, wanted))[0]
    return settled_behind(net, behind, ("ask", house, wanted))[0]


def has_row(net, world, house, wanted):
    """Whether the house has a row of the wanted one that isn't broken."""
    return live_row_in(state_of(net, world, house), wanted) is not None


def come_to(net, world, house):
    """All houses to which this one can come by ties, itself too, a rising tuple."""
    come = [house]
    # By one tie more each time: there are no more ties on a way than houses.
    for step in net[0]:
        ties = [tie for inner in come for tie in ties_in(state_of(net, world, inner))]
        come = [other for other in net[0] if other in come or other in ties]
    return tuple(come)
