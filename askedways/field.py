"""A field: houses of a net that deeds are done with, and that can go back."""

from askedways.deeds import world_done
from askedways.errors import NoBack, NoDeed, Unknown
from askedways.runs import run_of, why_not_next, worlds_of
from askedways.worlds import state_of


class Field:
    """What deeds were done by a rule in a net, and the worlds behind them."""

    def __init__(self, rule, net, *, begun=()):
        begun_run = run_of(rule, net, begun)
        self.rule = rule
        self.net = net
        self.deeds = list(begun_run[2])
        self.worlds = worlds_of(begun_run)

    def do(self, deed):
        """Does a deed, of whatever it is; refused where it can't be done."""
        self.do_next(deed, None)

    def do_all(self, deeds):
        """Does all of these, of whatever things they are, or none where one is refused."""
        done = len(self.deeds)
        try:
            for at, deed in enumerate(deeds):
                self.do_next(deed, at)
        except NoDeed:
            self.go_back_to(done)
            raise

    def back(self):
        """Takes back the last deed."""
        if not self.deeds:
            raise NoBack("no deed is done")
        self.go_back_to(len(self.deeds) - 1)

    def world(self):
        """The world behind all deeds."""
        return self.worlds[-1]

    def run(self):
        """The run of all deeds."""
        return (self.rule, self.net, tuple(self.deeds))

    def state(self, house):
        """The state of a house; refused of what is no house, whatever it is."""
        if house not in self.net[0]:
            raise Unknown(house if isinstance(house, str) else None)
        return state_of(self.net, self.world(), house)

    def twin(self):
        """A field like this one that goes on by itself."""
        return Field(self.rule, self.net, begun=tuple(self.deeds))

    def do_next(self, deed, at):
        """Does a deed, refused with this number where it can't be done."""
        why = why_not_next(self.rule, self.net, self.world(), len(self.deeds), deed)
        if why is not None:
            raise NoDeed(why, at)
        self.worlds.append(world_done(self.rule, self.net, self.world(), deed))
        self.deeds.append(deed)

    def go_back_to(self, done):
        """Takes back all deeds behind so many."""
        self.deeds = self.deeds[:done]
        self.worlds = self.worlds[:done + 1]

    def __len__(self):
        return len(self.deeds)

    def __eq__(self, other):
        if not isinstance(other, Field):
            return False
        return self.rule == other.rule and self.net == other.net and self.deeds == other.deeds
