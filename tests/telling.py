"""The document told once more, by its words and in other ways than the package's, which it never asks: for comparing."""

FRESH = ("up", 0, 0, (), (), ())


def ways_in(net):
    """Point 4: each pair both ways about, rising."""
    return sorted([pair for one, other in net[1] for pair in ((one, other), (other, one))])


class HouseTold:
    """Points 9 to 11, by dicts: what a house that is up does with letters and by itself."""

    def __init__(self, ahead, house):
        self.own, self.asks, self.seen, self.ties = ahead[1], ahead[2], set(ahead[4]), ahead[5]
        self.rows = {row[0]: row[1:] for row in ahead[3]}
        self.house = house
        self.sent = []

    def told(self):
        table = tuple((of,) + self.rows[of] for of in sorted(self.rows))
        return (("up", self.own, self.asks, table, tuple(sorted(self.seen)), self.ties), self.sent)

    def label(self, of):
        if of == self.house:
            return (self.own, 0) if self.own else None
        return self.rows[of][:2] if of in self.rows else None

    def live(self, of):
        return of in self.rows and self.rows[of][1] is not None

    def number(self, of):
        return self.rows[of][0] if of in self.rows else 0

    def tell(self, other, letter):
        self.sent += [(tie, letter) for tie in self.ties if tie != other]

    def learn(self, of, claim, other):
        # As one key: greater numbers first, then whole ones, then fewer steps.
        number, steps = claim[0], claim[1] + 1
        if of == self.house:
            return
        if of in self.rows:
            known = self.rows[of]
            if (known[0], known[1] is not None, -(known[1] or 0)) >= (number, True, -steps):
                return
        self.rows[of] = (number, steps, other)

    def take_ask(self, other, asker, ask, wanted, least, claim):
        if asker == self.house:
            return
        self.learn(asker, claim, other)
        late = wanted == self.house and self.own < least
        if (asker, ask) in self.seen and not late:
            return
        self.seen.add((asker, ask))
        if wanted == self.house:
            self.own = least if least > self.own + 1 else self.own + 1
        if not self.live(asker):
            return
        if wanted == self.house or (self.live(wanted) and self.rows[wanted][0] >= least):
            self.sent.append((self.rows[asker][2], ("answer", asker, wanted, self.label(wanted))))
            return
        self.tell(other, ("ask", asker, ask, wanted, max(least, self.number(wanted)), self.label(asker)))

    def take_answer(self, other, asker, wanted, claim):
        self.learn(wanted, claim, other)
        if asker != self.house and wanted != self.house and self.live(asker) and self.live(wanted):
            self.sent.append((self.rows[asker][2], ("answer", asker, wanted, self.label(wanted))))

    def take_broken(self, other, rows):
        some = [(of, number) for of, number in rows
                if self.live(of) and self.rows[of][2] == other and self.rows[of][0] < number]
        self.break_all(other, some)

    def break_all(self, other, some):
        for of, number in some:
            self.rows[of] = (number, None, None)
        if some:
            self.tell(other, ("broken", tuple(some)))

    def take_note(self, other, wanted, claim):
        self.learn(wanted, claim, other)

    def take(self, other, letter):
        if other in self.ties:
            getattr(self, "take_" + letter[0])(other, *letter[1:])
        return self.told()

    def do(self, word, other):
        if word == "find":
            self.ties = tuple(sorted({other, *self.ties}))
        elif word == "lose":
            self.ties = tuple(tie for tie in self.ties if tie != other)
            self.break_all(None, [(of, self.rows[of][0] + 1) for of in sorted(self.rows) if self.rows[of][2] == other])
        elif word == "ask":
            self.own, self.asks = self.own + 1, self.asks + 1
            self.seen.add((self.house, self.asks))
            self.tell(None, ("ask", self.house, self.asks, other, self.number(other), (self.own, 0)))
        elif word == "fail":
            self.break_all(None, [(other, self.rows[other][0] + 1)])
        else:
            self.tell(None, ("note", other, self.rows[other][:2]))
        return self.told()


class WorldTold:
    """Points 12 and 13, by dicts: what can be done in a world, and the world behind it."""

    def __init__(self, rule, net, world):
        self.rule = rule
        self.net = net
        self.states = {house: state for house, state in zip(net[0], world[0])}
        self.flights = {way: list(letters) for way, letters in zip(ways_in(net), world[1])}

    def world(self):
        return (tuple(self.states[house] for house in self.net[0]),
                tuple(tuple(self.flights[way]) for way in ways_in(self.net)))

    def is_up(self, house):
        return self.states[house][0] == "up"

    def ties(self, house):
        return self.states[house][5] if self.is_up(house) else ()

    def row(self, house, other):
        """The row of other that isn't broken, or None."""
        for row in self.states[house][3]:
            if self.is_up(house) and row[0] == other and row[2] is not None:
                return row
        return None

    def why(self, deed):
        word, house = deed[:2]
        if not self.is_up(house) and word not in ("drop", "twice", "up"):
            return "down"
        if word == "up" and self.is_up(house):
            return "up"
        if word in ("find", "lose") and (deed[2] in self.states[house][5]) == (word == "find"):
            return "tie"
        if word in ("take", "drop", "twice") and len(self.flights[deed[2], house]) <= deed[3]:
            return "letter"
        if word in ("fail", "note") and not self.row(house, deed[2]):
            return "row"
        if word == "up" and self.rule == "wait":
            if [one for one in self.net[0] if house in self.ties(one)]:
                return "wait"
            if [way for way in self.flights if way[0] == house and self.flights[way]]:
                return "wait"
        return None

    def do(self, deed):
        word, house = deed[:2]
        state, sent = self.states[house], []
        if word == "take":
            state, sent = HouseTold(state, house).take(deed[2], self.flights[deed[2], house].pop(deed[3]))
        elif word == "drop":
            self.flights[deed[2], house].pop(deed[3])
        elif word == "twice":
            self.flights[deed[2], house].append(self.flights[deed[2], house][deed[3]])
        elif word == "stop":
            state = ("down",) + state[1:3] + (tuple((row[0], row[1] + (row[2] is not None)) for row in state[3]),)
            for way in self.flights:
                if way[1] == house:
                    self.flights[way] = []
        elif word == "up" and self.rule == "kept":
            state = ("up",) + state[1:3] + (tuple(known + (None, None) for known in state[3]), (), ())
        elif word == "up":
            state = FRESH
        else:
            state, sent = HouseTold(state, house).do(word, deed[2])
            if word == "lose":
                self.flights[deed[2], house] = []
        self.states[house] = state
        for other, letter in sent:
            self.flights[house, other].append(letter)
        return self.world()


def worlds_told(run):
    """Point 14: the worlds of a run."""
    rule, net, deeds = run
    worlds = [(tuple(FRESH for house in net[0]), tuple(() for way in ways_in(net)))]
    for deed in deeds:
        worlds.append(WorldTold(rule, net, worlds[-1]).do(deed))
    return worlds


def way_told(net, world, house, wanted):
    """Point 17: the way from a house to another one."""
    told = WorldTold("kept", net, world)
    houses = [house]
    while True:
        if houses[-1] == wanted:
            return ("there", houses)
        if houses[-1] in houses[:-1]:
            return ("round", houses)
        row = told.row(houses[-1], wanted)
        if row is None:
            return ("lost", houses)
        houses.append(row[3])


def has_ring(net, world):
    """Point 18: whether a way is "round"."""
    return "round" in [way_told(net, world, house, wanted)[0] for house in net[0] for wanted in net[0]]


def faults_told(net, world):
    """Point 19: all faults, each asked by itself."""
    states = dict(zip(net[0], world[0]))
    pairs = [(house, wanted) for house in net[0] for wanted in net[0]]

    def key(house, wanted):
        for row in states[house][3]:
            if row[0] == wanted:
                return (row[1], row[2] is not None, -(row[2] or 0))
        return (0, False, 0)

    def live(house, wanted):
        return [row for row in states[house][3] if states[house][0] == "up" and row[0] == wanted and row[2]]

    claims = []
    for way, letters in zip(ways_in(net), world[1]):
        for place, letter in enumerate(letters):
            if letter[0] != "broken":
                claims.append((way, place, letter[{"ask": 1, "answer": 2, "note": 1}[letter[0]]], letter[-1]))
    faults = []
    for house, wanted in pairs:
        for row in live(house, wanted):
            if states[row[3]][0] == "up" and row[3] != wanted and key(row[3], wanted) <= (row[1], True, -row[2]):
                faults.append(("row", house, wanted))
    for way, place, wanted, claim in claims:
        if states[way[0]][0] == "up" and way[0] != wanted and key(way[0], wanted) < (claim[0], True, -claim[1]):
            faults.append(("letter",) + way + (place,))
    for house, wanted in pairs:
        if states[house][0] == "down" and house != wanted:
            numbers = [row[1] for one in net[0] for row in live(one, wanted) if row[3] == house]
            numbers += [claim[0] for way, place, of, claim in claims if of == wanted and way[0] == house]
            known = dict(states[house][3])
            if [number for number in numbers if wanted not in known or known[wanted] <= number]:
                faults.append(("down", house, wanted))
    return faults


def pedigrees_told(run):
    """Point 22, from the beginning on: for each moment, by (house, wanted), the pedigree of what it knew then.

    Each letter carries with it where its claim was learnt, and each row where it was."""
    rule, net, deeds = run
    worlds = worlds_told(run)
    carried = {way: [] for way in ways_in(net)}
    known = {}
    moments = [{}]
    for at, deed in enumerate(deeds):
        word, house = deed[:2]
        ahead, behind = (rows_by_houses(net, world) for world in worlds[at:at + 2])
        taken = None
        if word in ("take", "drop"):
            taken = carried[deed[2], house].pop(deed[3])
        elif word == "twice":
            carried[deed[2], house].append(carried[deed[2], house][deed[3]])
        for way in carried:
            if way[1] == house and (word == "stop" or (word == "lose" and way[0] == deed[2])):
                carried[way] = []
        known = dict(known)
        for pair in set(ahead) | set(behind):
            if ahead.get(pair) != behind.get(pair):
                known.pop(pair, None)
                if pair in behind and behind[pair][2] is not None:
                    known[pair] = [(house, at + 1) + behind[pair][1:3]] + taken
        for way, letters in zip(ways_in(net), worlds[at + 1][1]):
            for letter in letters[len(carried[way]):]:
                carried[way].append(claimed(house, at + 1, letter, known))
        moments.append(known)
    return moments


def rows_by_houses(net, world):
    """All rows of a world by (house, wanted); a house that is down has none."""
    return {(house, row[0]): row for house, state in zip(net[0], world[0]) if state[0] == "up" for row in state[3]}


def claimed(sender, moment, letter, known):
    """Where a letter's claim was learnt, its sender first; None where it has no claim."""
    if letter[0] == "broken":
        return None
    wanted, claim = letter[{"ask": 1, "answer": 2, "note": 1}[letter[0]]], letter[-1]
    return [(sender, moment) + claim] + (known[sender, wanted][1:] if sender != wanted else [])


def is_still_told(net, world):
    """Point 23: whether a world is still."""
    if faults_told(net, world) or [letters for letters in world[1] if letters]:
        return False
    told = WorldTold("kept", net, world)
    for one, other in net[1]:
        both = told.is_up(one) and told.is_up(other) and other in told.ties(one) and one in told.ties(other)
        if not both and (other in told.ties(one) or one in told.ties(other)):
            return False
    return True


def has_kept_told(net, world):
    """Point 23: whether a world has kept its numbers."""
    states = dict(zip(net[0], world[0]))
    for house, state in states.items():
        if state[0] == "up":
            for wanted, number, steps, onward in state[3]:
                if states[wanted][0] == "up" and number > states[wanted][1] + (steps is None):
                    return False
            for asker, ask in state[4]:
                if states[asker][0] == "up" and ask > states[asker][2]:
                    return False
    return True


def turn_told(net, world):
    """Point 23: a turn, and how many letters were taken in it."""
    states = dict(zip(net[0], world[0]))
    waiting = {way: [] for way in ways_in(net)}
    taken = 0
    for (one, other), letters in zip(ways_in(net), world[1]):
        for letter in letters:
            if states[other][0] == "up":
                states[other], sent = HouseTold(states[other], other).take(one, letter)
                taken += 1
                for tie, new in sent:
                    waiting[other, tie].append(new)
    return ((tuple(states[house] for house in net[0]), tuple(tuple(waiting[way]) for way in ways_in(net))), taken)


def settled_told(net, world):
    """Point 23: turns till no letter is on a way."""
    turns = letters = 0
    while [on for on in world[1] if on]:
        world, taken = turn_told(net, world)
        turns, letters = turns + 1, letters + taken
    return (world, turns, letters)


def once_told(net, world, house, wanted):
    """Point 24, in a still world."""
    return settled_told(net, WorldTold("kept", net, world).do(("ask", house, wanted)))


def come_to_told(net, world, house):
    """Point 25: all to which a house can come by ties, itself too."""
    told = WorldTold("kept", net, world)
    come, waiting = set(), [house]
    while waiting:
        at = waiting.pop()
        if at not in come:
            come.add(at)
            waiting += told.ties(at)
    return tuple(sorted(come))


def till_told(net, world, house, wanted):
    """Point 25, in a still world that has kept its numbers."""
    asks = 0
    while way_told(net, world, house, wanted)[0] != "there":
        if WorldTold("kept", net, world).row(house, wanted):
            world = settled_told(net, WorldTold("kept", net, world).do(("fail", house, wanted)))[0]
        world = once_told(net, world, house, wanted)[0]
        asks += 1
        if way_told(net, world, house, wanted)[0] != "there" and not WorldTold("kept", net, world).row(house, wanted):
            return ("lack", world, asks, come_to_told(net, world, house))
    return ("found", world, asks, way_told(net, world, house, wanted)[1])


def mended_told(net, world, house, wanted, goer):
    """Point 26, in such a world; None where it finds no way."""
    word, found, asks, houses = till_told(net, world, house, wanted)
    if word == "lack":
        return None
    behind = settled_told(net, WorldTold("kept", net, found).do(("note", house, wanted)))[0]
    ways = [way_told(net, each, goer, wanted) for each in (world, behind)]
    return (behind,) + tuple(len(houses) - 1 if word == "there" else None for word, houses in ways)


def steps_told(rule, net, world, left, overtake):
    """Point 27: all steps, doings first, then letters by ways and places."""
    steps = []
    for doing in left:
        if WorldTold(rule, net, world).why(doing) is None:
            rest = tuple(other for other in left if other != doing)
            steps.append((doing, WorldTold(rule, net, world).do(doing), rest))
    for (one, other), letters in zip(ways_in(net), world[1]):
        for place in range(len(letters)):
            deed = ("take", other, one, place)
            if (overtake or place == 0) and WorldTold(rule, net, world).why(deed) is None:
                steps.append((deed, WorldTold(rule, net, world).do(deed), left))
    return steps


def all_worlds_told(run, doings, overtake, most):
    """Point 27: all (world, left), a set; or None where there are more than most of them."""
    rule, net, deeds = run
    found, waiting = set(), [(worlds_told(run)[-1], doings)]
    while waiting:
        world, left = waiting.pop()
        if (world, left) not in found:
            found.add((world, left))
            if len(found) > most:
                return None
            waiting += [(behind, rest) for deed, behind, rest in steps_told(rule, net, world, left, overtake)]
    return found
