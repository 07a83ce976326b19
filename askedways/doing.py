"""What a house that is up does by itself, where it may."""

from askedways.labels import live_row_in
from askedways.learning import broken_by
from askedways.taking import number_in, tells_broken, to_ties, with_seen


def finding(state, other):
    """The state behind finding a neighbour, and what is sent: nothing."""
    return (with_ties(state, [*state[5], other]), [])


def losing(state, other):
    """The state behind losing a tie, and what is sent."""
    broken = [(row[0], row[1] + 1) for row in state[3] if row[3] == other]
    # Rows first: at no moment does one go on by a house that is no tie.
    behind = with_broken(state, broken)
    parted = with_ties(behind, [tie for tie in behind[5] if tie != other])
    return (parted, tells_broken(parted, other, broken))


def asking(state, house, wanted):
    """The state of the house behind asking for another one, and what it sends."""
    word, own, asks, table, seen, ties = state
    behind = with_seen((word, own + 1, asks + 1, table, seen, ties), (house, asks + 1))
    letter = ("ask", house, asks + 1, wanted, number_in(state, wanted), (own + 1, 0))
    return (behind, to_ties(behind, None, letter))


def failing(state, wanted):
    """The state behind failing by the row of the wanted house, and what is sent."""
    broken = [(wanted, number_in(state, wanted) + 1)]
    behind = with_broken(state, broken)
    return (behind, tells_broken(behind, None, broken))


def noting(state, wanted):
    """The state behind noting the row of the wanted house, the same, and what is sent."""
    row = live_row_in(state, wanted)
    return (state, to_ties(state, None, ("note", wanted, (row[1], row[2]))))


DOINGS = {"find": finding, "lose": losing, "fail": failing, "note": noting}


def done_by_itself(state, deed):
    """The state of a house behind a deed that it does by itself, and what it sends."""
    word, house, other = deed
    if word == "ask":
        return asking(state, house, other)
    doing = DOINGS[word]
    return doing(state, other)


def why_not_by_itself(state, deed):
    """Why a house that is up can't do such a deed by its state, or None."""
    word, house, other = deed
    if word == "find" and other in state[5]:
        return "tie"
    if word == "lose" and other not in state[5]:
        return "tie"
    if word in ("fail", "note") and live_row_in(state, other) is None:
        return "row"
    return None


def with_ties(state, ties):
    """The state with these as its ties."""
    word, own, asks, table, seen, ahead = state
    return (word, own, asks, table, seen, tuple(sorted(ties)))


def with_broken(state, broken):
    """The state with the rows of these houses broken, each by its number."""
    behind = state
    for wanted, number in broken:
        behind = broken_by(behind, wanted, number)
    return behind
