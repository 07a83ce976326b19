"""Parcels that are let go by the tables, house by house, while deeds are done, and their trails."""

from askedways.errors import Full, Unknown
from askedways.field import Field
from askedways.labels import is_nearer, label_in
from askedways.letters import is_claim
from askedways.names import is_name
from askedways.shapes import is_tuple_of, is_whole_from
from askedways.states import ties_in
from askedways.ways import onward_of
from askedways.worlds import state_of

MOST_PARCELS = 30


class Parcels:
    """A field, and parcels at its houses, by their numbers."""

    def __init__(self, rule, net, *, begun=()):
        self.field = Field(rule, net, begun=begun)
        # Of each parcel (house, wanted, word, the moment of its coming there, what was passed).
        self.sent = []

    def do(self, deed):
        """Does a deed, of whatever it is; refused where it can't be done."""
        self.field.do(deed)

    def send(self, house, wanted):
        """Sends a parcel at a house for another one, and tells its number."""
        if len(self.sent) >= MOST_PARCELS:
            raise Full("no more parcels can be sent")
        self.sent.append((house, wanted, "on", len(self.field), ()))
        return len(self.sent) - 1

    def move(self, number):
        """Moves a parcel a step, and tells its word behind it."""
        self.refuse_unknown(number)
        self.sent[number] = moved(self.field.net, self.field.world(), len(self.field), self.sent[number])
        return self.sent[number][2]

    def trail(self, number):
        """The trail of a parcel: each house that it was moved on from, and where it is."""
        self.refuse_unknown(number)
        house, wanted, word, moment, passed = self.sent[number]
        return [*passed, (house, moment, None)]

    def parcels(self):
        """Of each parcel (house, wanted, word)."""
        return [parcel[:3] for parcel in self.sent]

    def world(self):
        """The world behind all deeds."""
        return self.field.world()

    def run(self):
        """The run of all deeds."""
        return self.field.run()

    def twin(self):
        """A round of parcels like this one that goes on by itself."""
        made = Parcels(self.field.rule, self.field.net, begun=tuple(self.field.deeds))
        made.sent = list(self.sent)
        return made

    def refuse_unknown(self, number):
        """Refuses what is no number of a parcel, whatever it is."""
        if not is_whole_from(number, 0) or number >= len(self.sent):
            raise Unknown(None)

    def __len__(self):
        return len(self.sent)


def moved(net, world, done, parcel):
    """A parcel behind a step in a world behind so many deeds."""
    house, wanted, word, moment, passed = parcel
    if word != "on":
        return parcel
    if house == wanted:
        return (house, wanted, "there", moment, passed)
    onward = onward_of(net, world, house, wanted)
    # A house that is down has no ties, so nothing is let go to it either.
    if onward is None or house not in ties_in(state_of(net, world, onward)):
        return (house, wanted, "lost", moment, passed)
    label = label_in(state_of(net, world, house), house, wanted)
    return (onward, wanted, "on", done, (*passed, (house, done, label)))


def comes_nearer(thing):
    """Whether this, of whatever it is, is a trail by which labels come nearer."""
    if not isinstance(thing, list) or thing == [] or not all([is_stage(part) for part in thing]):
        return False
    labels = [part[2] for part in thing[:-1]]
    if thing[-1][2] is not None or not all([is_claim(label) for label in labels]):
        return False
    if not all([is_nearer(onward, label) for label, onward in zip(labels, labels[1:])]):
        return False
    return all([one[1] <= other[1] for one, other in zip(thing, thing[1:])])


def is_stage(thing):
    """Whether this is a tuple of a name, a moment, and something."""
    return is_tuple_of(thing, 3) and is_name(thing[0]) and is_whole_from(thing[1], 0)
