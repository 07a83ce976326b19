"""Reading nets, worlds, deeds and runs back from their texts."""

from askedways.deeds import ALONE, WITH_HOUSE, WITH_NEIGHBOUR, WITH_PLACE, world_done
from askedways.errors import NoText
from askedways.letters import is_letter
from askedways.names import is_name
from askedways.nets import FEWEST_HOUSES, MOST_HOUSES, are_pairs, ways_of
from askedways.runs import why_not_next
from askedways.shapes import are_numbered
from askedways.states import are_ties, is_seen, is_table, others_of
from askedways.worlds import fresh_world

RULES = ("kept", "wait", "bare")
MOST_FIGURES = 1000


def read_net(text):
    """The net that is written so; refused where none is."""
    lines = lines_in(text)
    net, at = net_from(lines)
    refuse_more(lines, at)
    return net


def read_world(net, text):
    """The world of the net that is written so; refused where none is."""
    lines = lines_in(text)
    states = []
    at = 0
    for house in net[0]:
        state, at = state_from(net, house, lines, at)
        states.append(state)
    letters, at = gathered(letter_line, net, lines, at)
    refuse_more(lines, at)
    flights = [tuple([letter for on, letter in letters if on == way]) for way in ways_of(net)]
    return (tuple(states), tuple(flights))


def read_deed(text):
    """The deed, of whatever names, that is written so; refused where none is."""
    deed = deed_in(text.split(" ")) if isinstance(text, str) else None
    if deed is None:
        raise NoText(0)
    return deed


def read_run(text):
    """The run that is written so; refused where none is."""
    lines = lines_in(text)
    net, at = net_from(lines)
    if at == len(lines) or not is_rule_line(lines[at]):
        raise NoText(at)
    rule = lines[at][1]
    deeds, end = deeds_from(rule, net, lines, at + 1)
    refuse_more(lines, end)
    return (rule, net, deeds)


def lines_in(text):
    """The words of each line of a text; what is behind the last line end has none, so that it can't stand."""
    if not isinstance(text, str):
        raise NoText(0)
    *whole, rest = text.split("\n")
    lines = [line.split(" ") for line in whole]
    return lines if rest == "" else [*lines, []]


def refuse_more(lines, at):
    """Refuses the line at this place, where all should have been read."""
    if at < len(lines):
        raise NoText(at)


def gathered(reading, given, lines, at):
    """What a reading tells of the lines from this place on, as long as it tells something, and the place behind."""
    things = []
    for words in lines[at:]:
        thing = reading(given, words, things)
        if thing is None:
            break
        things.append(thing)
    return (things, at + len(things))


def behind(ahead, thing):
    """The last of those ahead, where there is one, and this thing: those two show whether it may stand there."""
    return tuple([*ahead[-1:], thing])


def net_from(lines):
    """The net at the beginning of the lines, and the place behind it."""
    houses, at = gathered(house_line, MOST_HOUSES, lines, 0)
    if len(houses) < FEWEST_HOUSES:
        raise NoText(at)
    pairs, end = gathered(pair_line, houses, lines, at)
    return ((tuple(houses), tuple(pairs)), end)


def house_line(most, words, ahead):
    """The house of a line behind those ahead, or None."""
    if len(words) != 2 or words[0] != "house" or len(ahead) == most or not is_name(words[1]):
        return None
    return words[1] if ahead == [] or ahead[-1] < words[1] else None


def pair_line(houses, words, ahead):
    """The pair of a line behind those ahead, or None."""
    if len(words) != 3 or words[0] != "pair":
        return None
    pair = (words[1], words[2])
    return pair if are_pairs(houses, behind(ahead, pair)) else None


def state_from(net, house, lines, at):
    """The state of the house from this place of the lines on, and the place behind it."""
    if at == len(lines) or not is_head(house, lines[at]):
        raise NoText(at)
    word, own, asks = lines[at][1], number_in(lines[at][2]), number_in(lines[at][3])
    if word == "down":
        known, end = gathered(known_line, others_of(net, house), lines, at + 1)
        return ((word, own, asks, tuple(known)), end)
    ties, at = gathered(tie_line, (net, house), lines, at + 1)
    rows, at = gathered(row_line, (net, house, ties), lines, at)
    seen, at = gathered(seen_line, net, lines, at)
    return ((word, own, asks, tuple(rows), tuple(seen), tuple(ties)), at)


def is_head(house, words):
    """Whether a line begins a state of the house."""
    # By four words: a line below it that begins alike, where the house is called tie, row or seen, has others.
    if len(words) != 4 or words[0] != house or words[1] not in ("up", "down"):
        return False
    return number_in(words[2]) is not None and number_in(words[3]) is not None


def tie_line(given, words, ahead):
    """The tie of a line behind those ahead, of a house of a net, or None."""
    net, house = given
    if len(words) != 2 or words[0] != "tie" or not are_ties(net, house, behind(ahead, words[1])):
        return None
    return words[1]


def row_line(given, words, ahead):
    """The row of a line behind those ahead, of a house with these ties, or None."""
    net, house, ties = given
    if len(words) != 5 or words[0] != "row":
        return None
    row = (words[1], number_in(words[2]), number_in(words[3]), words[4])
    if words[3:] == ["-", "-"]:
        row = (words[1], number_in(words[2]), None, None)
    return row if is_table(net, house, ties, behind(ahead, row)) else None


def seen_line(net, words, ahead):
    """What a line tells that was seen, behind those ahead, or None."""
    if len(words) != 3 or words[0] != "seen":
        return None
    asked = (words[1], number_in(words[2]))
    return asked if is_seen(net, behind(ahead, asked)) else None


def known_line(others, words, ahead):
    """What a line tells that a house that is down knows of one of the others, behind those ahead, or None."""
    if len(words) != 3 or words[0] != "known":
        return None
    known = (words[1], number_in(words[2]))
    return known if are_numbered(others, behind(ahead, known)) else None


def letter_line(net, words, ahead):
    """The (way, letter) of a line behind those ahead, or None."""
    if len(words) < 4 or words[0] != "way":
        return None
    way = (words[1], words[2])
    letter = letter_in(words[3:])
    if way not in ways_of(net) or not is_letter(net, letter) or (ahead != [] and ahead[-1][0] > way):
        return None
    return (way, letter)


def letter_in(words):
    """What these words would be as a letter; it needn't be one."""
    if words[0] == "broken":
        return ("broken", tuple([numbered_in(part) for part in words[1:]]))
    claim = tuple([number_in(part) for part in words[-2:]])
    if len(words) == 7:
        return (words[0], words[1], number_in(words[2]), words[3], number_in(words[4]), claim)
    return (*words[:-2], claim)


def numbered_in(part):
    """What NAME:NUMBER tells; it needn't be a house and a number."""
    name, sign, figures = part.partition(":")
    return (name, number_in(figures))


def deeds_from(rule, net, lines, at):
    """The deeds of a run from this place of the lines on, as long as they can be done, and the place behind them."""
    world = fresh_world(net)
    deeds = []
    for words in lines[at:]:
        deed = deed_in(words)
        if why_not_next(rule, net, world, len(deeds), deed) is not None:
            break
        world = world_done(rule, net, world, deed)
        deeds.append(deed)
    return (tuple(deeds), at + len(deeds))


def deed_in(words):
    """The deed of these words, of whatever names, or None."""
    if words == [] or len(words) != size_of(words[0]) or not all([is_name(name) for name in words[1:3]]):
        return None
    if len(words) < 4:
        return tuple(words)
    place = number_in(words[3])
    return None if place is None else (*words[:3], place)


def size_of(word):
    """How many words a deed with this first one has, 0 where there is none."""
    if word in ALONE:
        return 2
    if word in WITH_NEIGHBOUR or word in WITH_HOUSE:
        return 3
    return 4 if word in WITH_PLACE else 0


def is_rule_line(words):
    """Whether a line tells a rule."""
    return len(words) == 2 and words[0] == "rule" and words[1] in RULES


def number_in(figures):
    """The whole number that is written so, or None."""
    if not 1 <= len(figures) <= MOST_FIGURES or not all([sign in "0123456789" for sign in figures]):
        return None
    if figures[0] == "0" and figures != "0":
        return None
    return int(figures)
