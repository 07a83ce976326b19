"""Letters, and what they claim."""

from askedways.labels import is_label
from askedways.shapes import are_numbered, is_tuple_of, is_whole_from


def is_letter(net, thing):
    """Whether this is a letter of the net, of whatever it is."""
    houses = net[0]
    if is_ask(houses, thing) or is_answer(houses, thing):
        return True
    return is_broken(houses, thing) or is_note(houses, thing)


def claim_of(letter):
    """The house for which a letter has a claim and that claim, or None where it has none."""
    if letter[0] == "broken":
        return None
    if letter[0] == "ask":
        return (letter[1], letter[5])
    # An answer and a note end alike: the wanted house, then the claim.
    return (letter[-2], letter[-1])


def is_ask(houses, thing):
    """Whether this is an ask."""
    if not is_tuple_of(thing, 6):
        return False
    word, asker, ask, wanted, least, claim = thing
    if word != "ask" or not are_unlike(houses, asker, wanted):
        return False
    return is_whole_from(ask, 1) and is_whole_from(least, 0) and is_claim(claim)


def is_answer(houses, thing):
    """Whether this is an answer."""
    if not is_tuple_of(thing, 4):
        return False
    word, asker, wanted, claim = thing
    return word == "answer" and are_unlike(houses, asker, wanted) and is_claim(claim)


def is_broken(houses, thing):
    """Whether this tells of broken rows, one or more."""
    if not is_tuple_of(thing, 2):
        return False
    word, rows = thing
    return word == "broken" and rows != () and are_numbered(houses, rows)


def is_note(houses, thing):
    """Whether this is a note."""
    if not is_tuple_of(thing, 3):
        return False
    word, wanted, claim = thing
    return word == "note" and wanted in houses and is_claim(claim)


def are_unlike(houses, one, other):
    """Whether these are two houses, not one twice."""
    return one in houses and other in houses and one != other


def is_claim(thing):
    """Whether this is a label that a letter may claim."""
    return thing is not None and is_label(thing) and thing[1] is not None
