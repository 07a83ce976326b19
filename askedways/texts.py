"""Nets, states, letters, worlds, deeds and runs as texts."""

from askedways.nets import ways_of


def net_text(net):
    """The lines of a net."""
    houses, pairs = net
    return lines_of([f"house {house}" for house in houses] + [f"pair {one} {other}" for one, other in pairs])


def state_text(house, state):
    """The lines of a house's state."""
    head = f"{house} {state[0]} {state[1]} {state[2]}"
    if state[0] == "down":
        return lines_of([head] + [f"known {other} {number}" for other, number in state[3]])
    word, own, asks, table, seen, ties = state
    tied = [f"tie {tie}" for tie in ties]
    rows = [f"row {row_text(row)}" for row in table]
    return lines_of([head] + tied + rows + [f"seen {asker} {ask}" for asker, ask in seen])


def letter_text(letter):
    """A letter in one line, without its end."""
    if letter[0] == "broken":
        rows = [f"{house}:{number}" for house, number in letter[1]]
        return words_of(["broken", *rows])
    number, steps = letter[-1]
    return words_of([*letter[:-1], number, steps])


def world_text(net, world):
    """The lines of a world: its states, then the letters on its ways."""
    states, flights = world
    letters = []
    for (one, other), flying in zip(ways_of(net), flights):
        letters += [f"way {one} {other} {letter_text(letter)}" for letter in flying]
    return "".join([state_text(house, state) for house, state in zip(net[0], states)]) + lines_of(letters)


def deed_text(deed):
    """A deed in one line, without its end."""
    return words_of(deed)


def run_text(run):
    """The lines of a run: its net, its rule, its deeds."""
    rule, net, deeds = run
    return net_text(net) + lines_of([f"rule {rule}"] + [deed_text(deed) for deed in deeds])


def row_text(row):
    """A row in words, what is None as a dash."""
    return words_of(["-" if part is None else part for part in row])


def lines_of(lines):
    """These lines, each with its end."""
    return "".join([line + "\n" for line in lines])


def words_of(parts):
    """Names and numbers with blanks between."""
    return " ".join([str(part) for part in parts])
