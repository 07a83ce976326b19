"""A desk: rows of words are said to a field, and answered by texts."""

from askedways.asking import asks_once, asks_till
from askedways.deeds import WITH_PLACE, is_deed
from askedways.errors import NoRow, NoText, Unknown
from askedways.field import Field
from askedways.pedigrees import pedigree
from askedways.reader import read_deed, read_run
from askedways.search import ring_run
from askedways.sound import faults_in
from askedways.still import is_still
from askedways.texts import run_text, state_text, words_of, world_text
from askedways.ways import fall_of, ring_in, way_to

MOST_DOINGS = 8


def tell_back(field):
    """Takes back the last deed."""
    field.back()
    return "ok"


def tell_run(field):
    """The text of the run, without its last line end."""
    return run_text(field.run())[:-1]


def tell_world(field):
    """The text of the world, without its last line end."""
    return world_text(field.net, field.world())[:-1]


def tell_ring(field):
    """The wanted house and the houses of a ring."""
    ring = ring_in(field.net, field.world())
    return "-" if ring is None else words_of([ring[0], *ring[1]])


def tell_faults(field):
    """All faults, a line for each."""
    faults = faults_in(field.net, field.world())
    return "\n".join([words_of(fault) for fault in faults]) if faults else "none"


def tell_still(field):
    """Whether the world is still."""
    return "yes" if is_still(field.net, field.world()) else "no"


def tell_way(field, house, other):
    """How the way from a house to another one ends, and its houses."""
    word, houses = way_to(field.net, field.world(), house, other)
    return words_of([word, *houses])


def tell_fall(field, house, other):
    """The labels along that way."""
    return parted(fall_of(field.net, field.world(), house, other))


def tell_pedigree(field, house, other):
    """Where the label of the house for the other one was learnt."""
    return parted(pedigree(field.run(), house, other, len(field)) or [])


def tell_asked(field, house, other):
    """In how many turns and by how many letters it would be settled, were the house to ask."""
    world, turns, letters = asks_once(field.net, field.world(), house, other)
    return words_of([turns, letters])


def tell_till(field, house, other):
    """By how many askings the other house would be found, and the way; or its lack, and what shows it."""
    word, world, asks, houses = asks_till(field.net, field.world(), house, other)
    return words_of([word, asks, *houses])


OF_NONE = {"back": tell_back, "run": tell_run, "world": tell_world, "ring": tell_ring, "faults": tell_faults,
           "still": tell_still}
OF_TWO = {"way": tell_way, "fall": tell_fall, "pedigree": tell_pedigree, "asked": tell_asked, "till": tell_till}


class Desk:
    """A field of a run that was read, and what is said to it."""

    def __init__(self, text):
        rule, net, deeds = read_run(text)
        self.field = Field(rule, net, begun=deeds)

    def say(self, row):
        """The answer to a row, of whatever it is; refused where it is none, or as what it asks for is refused."""
        if not isinstance(row, str) or "\n" in row:
            raise NoRow("a row is a text of one line")
        words = row.split(" ")
        if words[0] in OF_NONE and len(words) == 1:
            tell = OF_NONE[words[0]]
            return tell(self.field)
        if words[0] == "state" and len(words) == 2:
            return state_text(words[1], self.field.state(words[1]))[:-1]
        if words[0] in OF_TWO and len(words) == 3:
            refuse_houses(self.field.net, words[1], words[2])
            tell_of = OF_TWO[words[0]]
            return tell_of(self.field, words[1], words[2])
        if words[0] == "search":
            return tell_search(self.field, words_of(words[1:]))
        self.field.do(deed_of(row))
        return "ok"


def tell_search(field, texts):
    """By how many deeds of such doings a ring is come to, or how many worlds without one there are."""
    doings = doings_of(field.net, texts)
    word, found = ring_run(field.run(), doings)
    return words_of([word, len(found)])


def doings_of(net, texts):
    """The doings whose texts these are; refused where they are none."""
    doings = [deed_of(text) for text in texts.split(" / ")]
    # Of names that aren't houses of the net, or of one house twice, there is a deed's text but no doing.
    if not all([is_deed(net, doing) and doing[0] not in WITH_PLACE for doing in doings]):
        raise NoRow("a deed is none of the net, or takes, drops or doubles a letter")
    if len(doings) > MOST_DOINGS or len(set(doings)) < len(doings):
        raise NoRow("there are too many doings, or one twice")
    return tuple(doings)


def deed_of(text):
    """The deed whose text this is; refused as no row where there is none."""
    try:
        return read_deed(text)
    except NoText:
        raise NoRow("no row, and no deed's text")


def refuse_houses(net, house, other):
    """Refuses two words that are alike, or that are no houses."""
    if house == other:
        raise NoRow("the two houses are alike")
    for name in (house, other):
        if name not in net[0]:
            raise Unknown(name)


def parted(tuples):
    """Tuples with colons between their parts, blanks between them, a dash where there are none."""
    return words_of([":".join([str(part) for part in row]) for row in tuples]) if tuples else "-"
