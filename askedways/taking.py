"""What a house that is up does with a letter that it takes."""

from askedways.labels import label_in, live_row_in, row_in
from askedways.learning import broken_by, learnt


def takes_ask(state, house, other, letter):
    """What a house does with an ask."""
    word, asker, ask, wanted, least, claim = letter
    if house == asker:
        return (state, [])
    wiser = learnt(state, house, asker, claim, other)
    if has_done(wiser, house, letter):
        return (wiser, [])
    behind = with_seen(wiser, (asker, ask))
    if house == wanted:
        behind = with_own(behind, max(behind[1] + 1, least))
    return (behind, sent_for_ask(behind, house, other, letter))


def has_done(state, house, letter):
    """Whether the house has seen this ask and needn't take it up once more."""
    word, asker, ask, wanted, least, claim = letter
    # A wanted house whose number is below what the asker holds can't be found till it raises it.
    is_below = house == wanted and state[1] < least
    return (asker, ask) in state[4] and not is_below


def sent_for_ask(state, house, other, letter):
    """What the house sends for an ask, its state being the one behind it."""
    word, asker, ask, wanted, least, claim = letter
    if live_row_in(state, asker) is None:
        return []
    row = live_row_in(state, wanted)
    if house == wanted or (row is not None and row[1] >= least):
        return answers(state, house, asker, wanted)
    greatest = max(least, number_in(state, wanted))
    return to_ties(state, other, ("ask", asker, ask, wanted, greatest, label_in(state, house, asker)))


def takes_answer(state, house, other, letter):
    """What a house does with an answer."""
    word, asker, wanted, claim = letter
    wiser = learnt(state, house, wanted, claim, other)
    # A house has no row of itself: so neither the asker nor the wanted house lets it go on.
    if live_row_in(wiser, asker) is None or live_row_in(wiser, wanted) is None:
        return (wiser, [])
    return (wiser, answers(wiser, house, asker, wanted))


def takes_broken(state, house, other, letter):
    """What a house does where a neighbour tells of broken rows."""
    behind = state
    broken = []
    for wanted, number in letter[1]:
        row = live_row_in(state, wanted)
        if row is not None and row[3] == other and number > row[1]:
            behind = broken_by(behind, wanted, number)
            broken.append((wanted, number))
    return (behind, tells_broken(behind, other, broken))


def takes_note(state, house, other, letter):
    """What a house does with a note."""
    word, wanted, claim = letter
    return (learnt(state, house, wanted, claim, other), [])


TAKINGS = {"ask": takes_ask, "answer": takes_answer, "broken": takes_broken, "note": takes_note}


def takes_letter(state, house, other, letter):
    """The state of the house behind taking a letter from the other one, and what it sends."""
    if other not in state[5]:
        return (state, [])
    taking = TAKINGS[letter[0]]
    return taking(state, house, other, letter)


def answers(state, house, asker, wanted):
    """The answer of the house with its label for the wanted one, to the next on its way to the asker."""
    return [(row_in(state, asker)[3], ("answer", asker, wanted, label_in(state, house, wanted)))]


def tells_broken(state, other, broken):
    """What tells of these broken rows, where there are some, to each tie of a state but the other house."""
    return to_ties(state, other, ("broken", tuple(broken))) if broken else []


def to_ties(state, other, letter):
    """This letter to each tie of a state but the other house (to all where that is None), in order."""
    return [(tie, letter) for tie in state[5] if tie != other]


def number_in(state, wanted):
    """The number that a state knows of the wanted house, 0 where it knows nothing."""
    row = row_in(state, wanted)
    return 0 if row is None else row[1]


def with_seen(state, asked):
    """The state with this (asker, ask) among those seen."""
    word, own, asks, table, seen, ties = state
    return (word, own, asks, table, tuple(sorted(set([*seen, asked]))), ties)


def with_own(state, own):
    """The state with this number as its own."""
    word, ahead, asks, table, seen, ties = state
    return (word, own, asks, table, seen, ties)
