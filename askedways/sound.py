"""Soundness of a world: along each way a house comes nearer, and no letter claims more than its sender knows."""

from askedways.labels import is_nearer, label_in
from askedways.letters import claim_of
from askedways.nets import ways_of
from askedways.worlds import state_of


def faults_in(net, world):
    """All faults of a world: of rows, of letters, of houses that are down."""
    return row_faults(net, world) + letter_faults(net, world) + down_faults(net, world)


def is_sound(net, world):
    """Whether a world has no faults."""
    return faults_in(net, world) == []


def row_faults(net, world):
    """The faults of rows, by houses and by wanted ones."""
    rows = live_rows(net, world)
    return [("row", house, row[0]) for house, row in rows if is_row_fault(net, world, row)]


def live_rows(net, world):
    """The rows that aren't broken of all houses that are up, a list of (house, row)."""
    ups = [(house, state) for house, state in zip(net[0], world[0]) if state[0] == "up"]
    return [(house, row) for house, state in ups for row in state[3] if row[2] is not None]


def is_row_fault(net, world, row):
    """Whether a row that isn't broken goes on by a house that is up and no nearer."""
    wanted, number, steps, onward = row
    state = state_of(net, world, onward)
    if state[0] == "down" or onward == wanted:
        return False
    return not is_nearer(label_in(state, onward, wanted), (number, steps))


def letter_faults(net, world):
    """The faults of letters, by ways and places."""
    faults = []
    for (one, other), letters in zip(ways_of(net), world[1]):
        for place, letter in enumerate(letters):
            if is_letter_fault(net, world, one, letter):
                faults.append(("letter", one, other, place))
    return faults


def is_letter_fault(net, world, sender, letter):
    """Whether a letter claims for another house what is nearer than its sender, being up, knows."""
    claim = claim_of(letter)
    state = state_of(net, world, sender)
    if claim is None or state[0] == "down" or claim[0] == sender:
        return False
    return is_nearer(claim[1], label_in(state, sender, claim[0]))


def down_faults(net, world):
    """The faults of houses that are down, by houses and by wanted ones."""
    faults = []
    for house, state in zip(net[0], world[0]):
        if state[0] == "down":
            trusted = trusted_of(net, world, house)
            known = dict(state[3])
            faults += [("down", house, wanted) for wanted in net[0] if is_down_fault(known, trusted, wanted)]
    return faults


def trusted_of(net, world, house):
    """What others hold, or may still learn, by a house: a list of (wanted, number), of wanted ones but itself."""
    rows = [(row[0], row[1]) for holder, row in live_rows(net, world) if row[3] == house]
    claims = []
    for way, letters in zip(ways_of(net), world[1]):
        if way[0] == house:
            claims += [claim_of(letter) for letter in letters if letter[0] != "broken"]
    numbers = [(wanted, label[0]) for wanted, label in claims]
    return [(wanted, number) for wanted, number in rows + numbers if wanted != house]


def is_down_fault(known, trusted, wanted):
    """Whether a house that is down, knowing these numbers, would come up no nearer than what is trusted."""
    numbers = [number for house, number in trusted if house == wanted]
    return numbers != [] and known.get(wanted, 0) <= max(numbers)
