"""What the tests share: nets, things of other kinds, ways of changing a thing at one place, and drawn runs."""

from askedways.deeds import why_not, world_behind
from askedways.worlds import fresh_world

BIG = int("9" * 60)
TWO = (("a", "b"), (("a", "b"),))
LINE = (("ann", "bob", "cyd"), (("ann", "bob"), ("bob", "cyd")))
APART = (("ann", "bob", "cyd"), ())
HOUSES = ("ann", "bob", "cyd", "dan", "eve")
FULL = (HOUSES, tuple((one, other) for one in HOUSES for other in HOUSES if one < other))
# A ring of four with a house hanging on it: pairs and no pairs among its houses.
SQUARE = (HOUSES, (("ann", "bob"), ("ann", "dan"), ("bob", "cyd"), ("cyd", "dan"), ("dan", "eve")))


def nested(depth):
    """A tuple, list or dict with so many within one another."""
    thing = "ann"
    for at in range(depth):
        thing = ((thing,), [thing], {"ann": thing})[at % 3]
    return thing


def other_kinds():
    """Things of whatever kind that are no nets, rows, states, letters or worlds, made anew each time."""
    return [
        None, True, False, 0, 1, -1, 2, BIG, -BIG, "", "a", "ann", "up", "down", "ask", "ANN", "1", "\n", "~" * 60000,
        (), (None,), (1,), ("ann",), (("ann",),), (True, 0), ("up",), ("down",), ("ask",), ("broken",), ("note",),
        [], [None], ["ann", "bob"], [["ann", "bob"], []], [("up", 0, 0, (), (), ())],
        {}, {"ann": 1}, {1: ("ann",)}, {("ann", "bob"): []}, nested(30), ("up", nested(29)), tuple(range(9999)),
        ((), ()), ([], []), ({}, {}), ("", ""), (1, 2, 3, 4), ("a", "b", "c", "d", "e", "f"), ({}, [], (), None),
    ]


def changed_at(thing, made):
    """All that come of thing by changing one place in it: made tells what may stand in the stead of a part."""
    for new in made(thing):
        yield new
    if isinstance(thing, tuple):
        for at, part in enumerate(thing):
            for new in changed_at(part, made):
                yield thing[:at] + (new,) + thing[at + 1:]


def listed(part):
    """A list for a tuple."""
    return [list(part)] if isinstance(part, tuple) else []


def odd(part):
    """Things of other kinds for a part."""
    return [None, True, False, -1, BIG, "", "Ann", "zoe", [], (), {}, [part], (part,), {"a": part}]


def one_off(part):
    """A tuple with a part too few or too many."""
    if not isinstance(part, tuple):
        return []
    shorter = [part[:at] + part[at + 1:] for at in range(len(part))]
    return shorter + [part + (None,), part + (part[-1] if part else 0,), (0,) + part]


def things_of_other_kinds_in(deed):
    """What comes of a deed by changing it at one place, so that it is none any more."""
    for thing in [*changed_at(deed, odd), *one_off(deed), list(deed), (deed,), [deed], {"deed": deed}]:
        yield thing


def deeds_in(net, world):
    """All deeds of the net in a world, done or not, places up to one too many."""
    for house in net[0]:
        yield ("stop", house)
        yield ("up", house)
        for other in net[0]:
            if other != house:
                for word in ("ask", "fail", "note"):
                    yield (word, house, other)
    ways = sorted([pair for one, other in net[1] for pair in ((one, other), (other, one))])
    for (other, house), letters in zip(ways, world[1]):
        yield ("find", house, other)
        yield ("lose", house, other)
        for word in ("take", "drop", "twice"):
            for place in range(len(letters) + 1):
                yield (word, house, other, place)


# How often a word is drawn where it can be done: asks and letters taken most, so that rows come to be.
WEIGHTS = {"find": 8, "lose": 2, "ask": 6, "fail": 1, "note": 2, "take": 24, "drop": 1, "twice": 1, "stop": 1, "up": 5}


def drawn_run(dice, rule, net, size, weights=WEIGHTS):
    """A run of so many deeds, drawn among those that can be done in each world."""
    world = fresh_world(net)
    deeds = []
    for at in range(size):
        can = {}
        for deed in deeds_in(net, world):
            if weights.get(deed[0]) and why_not(rule, net, world, deed) is None:
                can.setdefault(deed[0], []).append(deed)
        word = dice.choices(list(can), [weights[word] for word in can])[0]
        deed = dice.choice(can[word])
        deeds.append(deed)
        world = world_behind(rule, net, world, deed)
    return (rule, net, tuple(deeds))


def world_with(net, tables, down=None, flights=None):
    """A world in which each house has these rows, by houses, or is down and knows these numbers; all are tied."""
    ways = sorted([pair for one, other in net[1] for pair in ((one, other), (other, one))])
    states = []
    for house in net[0]:
        ties = tuple([other for one, other in ways if one == house])
        states.append(("up", 1, 0, tuple(sorted(tables.get(house, ()))), (), ties))
        if house in (down or {}):
            states[-1] = ("down", 1, 0, tuple(sorted(down[house])))
    return (tuple(states), tuple([tuple((flights or {}).get(way, ())) for way in ways]))


def drawn_world(dice, net, letters=6):
    """A world of whatever rows and letters, of no run."""
    ways = sorted([pair for one, other in net[1] for pair in ((one, other), (other, one))])
    tables, down, flights = {}, {}, {}
    for house in net[0]:
        ties = [other for one, other in ways if one == house]
        others = [other for other in net[0] if other != house]
        if dice.random() < 0.2:
            down[house] = [(other, dice.randint(1, 3)) for other in others if dice.random() < 0.6]
        rows = [(other, dice.randint(1, 3), dice.randint(1, 3), dice.choice(ties)) for other in others if ties]
        tables[house] = [row if dice.random() < 0.9 else row[:2] + (None, None) for row in rows if dice.random() < 0.9]
    for at in range(letters if ways else 0):
        one, other = dice.sample(net[0], 2)
        claim = (dice.randint(1, 3), dice.randint(0, 3))
        flights.setdefault(dice.choice(ways), []).append(dice.choice((
            ("ask", one, 1, other, 0, claim), ("answer", one, other, claim), ("note", one, claim),
            ("broken", ((one, 2),)))))
    return world_with(net, tables, down, flights)


def drawn_net(dice):
    """A net of two to five houses with some of the pairs."""
    houses = HOUSES[:dice.randint(2, 5)]
    return (houses, tuple([pair for pair in FULL[1] if pair[1] in houses and dice.random() < 0.7]))


def drawn_still_world(dice, net, more=0):
    """A still world of no run; it has kept its numbers, but where rows may have numbers that are more."""
    down = [house for house in net[0] if dice.random() < 0.12]
    ties = {house: [] for house in net[0]}
    for one, other in net[1]:
        if one not in down and other not in down and dice.random() < 0.75:
            ties[one].append(other)
            ties[other].append(one)
    own = {house: dice.randint(0, 4) for house in net[0]}
    asks = {house: dice.randint(0, 2) for house in net[0]}
    tables = {house: [] for house in net[0]}
    for wanted in net[0]:
        most = (5 if wanted in down else own[wanted]) + more
        for row_house, row in drawn_rows(dice, net, ties, wanted, most):
            tables[row_house].append(row)
    states = []
    for house in net[0]:
        seen = [(asker, ask) for asker in net[0] for ask in range(1, asks[asker] + 1) if dice.random() < 0.5]
        states.append(("up", own[house], asks[house], tuple(sorted(tables[house])), tuple(seen), tuple(ties[house])))
        if house in down:
            states[-1] = ("down", own[house], asks[house],
                          tuple((other, 6) for other in net[0] if other != house and dice.random() < 0.5))
    return (tuple(states), tuple([() for pair in net[1] for way in (0, 1)]))


def drawn_rows(dice, net, ties, wanted, most):
    """Rows for the wanted house, (house, row), each that isn't broken going on by a tie that is nearer."""
    keys = {}
    for house in net[0]:
        if house != wanted and dice.random() < 0.85:
            keys[house] = (dice.randint(1, most + 1), -dice.choice((1, 1, 2, 2, 3, 4, 9)))
            if keys[house][0] > most:
                keys[house] = (most + 1, -9)
    nearer = {}
    # Nine steps stand for None; who has no nearer tie has a broken row, which may break others.
    for again in net[0]:
        for house, key in keys.items():
            nearer[house] = [tie for tie in ties[house] if tie == wanted or keys.get(tie, (0, 0)) > key]
            if not nearer[house]:
                keys[house] = (key[0], -9)
    for house, (number, steps) in keys.items():
        if steps == -9:
            yield house, (wanted, number, None, None)
        else:
            yield house, (wanted, number, -steps, dice.choice(nearer[house]))
