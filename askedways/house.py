"""A house as an object, keeping its rows by themselves."""

from askedways.deeds import is_deed
from askedways.doing import done_by_itself, why_not_by_itself
from askedways.errors import NoDeed
from askedways.labels import live_row_in
from askedways.states import fresh_state
from askedways.taking import takes_letter


class House:
    """A house that is up: it is told letters and doings of its own, and tells the letters that it sends."""

    def __init__(self, net, house, *, start=None):
        self.net = net
        self.house = house
        self.keep(fresh_state() if start is None else start)

    def take(self, other, letter):
        """Takes a letter from a neighbour."""
        # A letter handed over by itself is the first one of its way.
        self.refuse_kind(("take", self.house, other, 0))
        behind, sent = takes_letter(self.state(), self.house, other, letter)
        self.keep(behind)
        return sent

    def find(self, other):
        """Finds a neighbour."""
        return self.does(("find", self.house, other))

    def lose(self, other):
        """Loses a neighbour."""
        return self.does(("lose", self.house, other))

    def ask(self, wanted):
        """Asks for another house."""
        return self.does(("ask", self.house, wanted))

    def fail(self, wanted):
        """Fails by the row of another house."""
        return self.does(("fail", self.house, wanted))

    def note(self, wanted):
        """Notes the row of another house."""
        return self.does(("note", self.house, wanted))

    def has(self, wanted):
        """Whether it has a row, not broken, of this house, of whatever it is."""
        return live_row_in(self.state(), wanted) is not None

    def state(self):
        """Its state."""
        table = tuple([self.rows[wanted] for wanted in sorted(self.rows)])
        return ("up", self.own, self.asks, table, self.seen, self.ties)

    def does(self, deed):
        """Does a deed of its own where that can be done, and tells what it sends."""
        self.refuse_kind(deed)
        why = why_not_by_itself(self.state(), deed)
        if why is not None:
            raise NoDeed(why)
        behind, sent = done_by_itself(self.state(), deed)
        self.keep(behind)
        return sent

    def refuse_kind(self, deed):
        """Refuses what is no deed of the net."""
        if not is_deed(self.net, deed):
            raise NoDeed("kind")

    def keep(self, behind):
        """Keeps what a state tells, the rows by the houses that they are of."""
        word, own, asks, table, seen, ties = behind
        self.own = own
        self.asks = asks
        self.rows = {row[0]: row for row in table}
        self.seen = seen
        self.ties = ties

    def __len__(self):
        return len([wanted for wanted in self.rows if self.rows[wanted][2] is not None])

    def __eq__(self, other):
        if not isinstance(other, House):
            return False
        return self.net == other.net and self.house == other.house and self.state() == other.state()
