"""The document told once more, by its words and in other ways than the package's, which it never asks: for comparing."""

import re

FRESH = ("up", 0, 0, (), (), ())


def ways_in(net):
    """Point 4: each pair both ways about, rising."""
    return sorted([pair for one, other in net[1] for pair in ((one, other), (other, one))])


class HouseTold:
    """Points 9 to 11, by dicts: what a house that is up does with letters and by itself."""

    def __init__(self, ahead, house):
        self.own, self.asks, self.seen, self.ties = ahead[1], ahead[2], set(ahead[4]), ahead[5]
        self.rows = {row[0]: row[1:] for row in ahead[3]}
        self.house = house
        self.sent = []

    def told(self):
        table = tuple((of,) + self.rows[of] for of in sorted(self.rows))
        return (("up", self.own, self.asks, table, tuple(sorted(self.seen)), self.ties), self.sent)

    def label(self, of):
        if of == self.house:
            return (self.own, 0) if self.own else None
        return self.rows[of][:2] if of in self.rows else None

    def live(self, of):
        return of in self.rows and self.rows[of][1] is not None

    def number(self, of):
        return self.rows[of][0] if of in self.rows else 0

    def tell(self, other, letter):
        self.sent += [(tie, letter) for tie in self.ties if tie != other]

    def learn(self, of, claim, other):
        # As one key: greater numbers first, then whole ones, then fewer steps.
        number, steps = claim[0], claim[1] + 1
        if of == self.house:
            return
        if of in self.rows:
            known = self.rows[of]
            if (known[0], known[1] is not None, -(known[1] or 0)) >= (number, True, -steps):
                return
        self.rows[of] = (number, steps, other)

    def take_ask(self, other, asker, ask, wanted, least, claim):
        if asker == self.house:
            return
        self.learn(asker, claim, other)
        late = wanted == self.house and self.own < least
        if (asker, ask) in self.seen and not late:
            return
        self.seen.add((asker, ask))
        if wanted == self.house:
            self.own = least if least > self.own + 1 else self.own + 1
        if not self.live(asker):
            return
        if wanted == self.house or (self.live(wanted) and self.rows[wanted][0] >= least):
            self.sent.append((self.rows[asker][2], ("answer", asker, wanted, self.label(wanted))))
            return
        self.tell(other, ("ask", asker, ask, wanted, max(least, self.number(wanted)), self.label(asker)))

    def take_answer(self, other, asker, wanted, claim):
        self.learn(wanted, claim, other)
        if asker != self.house and wanted != self.house and self.live(asker) and self.live(wanted):
            self.sent.append((self.rows[asker][2], ("answer", asker, wanted, self.label(wanted))))

    def take_broken(self, other, rows):
        some = [(of, number) for of, number in rows
                if self.live(of) and self.rows[of][2] == other and self.rows[of][0] < number]
        self.break_all(other, some)

    def break_all(self, other, some):
        for of, number in some:
            self.rows[of] = (number, None, None)
        if some:
            self.tell(other, ("broken", tuple(some)))

    def take_note(self, other, wanted, claim):
        self.learn(wanted, claim, other)

    def take(self, other, letter):
        if other in self.ties:
            getattr(self, "take_" + letter[0])(other, *letter[1:])
        return self.told()

    def do(self, word, other):
        if word == "find":
            self.ties = tuple(sorted({other, *self.ties}))
        elif word == "lose":
            self.ties = tuple(tie for tie in self.ties if tie != other)
            self.break_all(None, [(of, self.rows[of][0] + 1) for of in sorted(self.rows) if self.rows[of][2] == other])
        elif word == "ask":
            self.own, self.asks = self.own + 1, self.asks + 1
            self.seen.add((self.house, self.asks))
            self.tell(None, ("ask", self.house, self.asks, other, self.number(other), (self.own, 0)))
        elif word == "fail":
            self.break_all(None, [(other, self.rows[other][0] + 1)])
        else:
            self.tell(None, ("note", other, self.rows[other][:2]))
        return self.told()


class WorldTold:
    """Points 12 and 13, by dicts: what can be done in a world, and the world behind it."""

    def __init__(self, rule, net, world):
        self.rule = rule
        self.net = net
        self.states = {house: state for house, state in zip(net[0], world[0])}
        self.flights = {way: list(letters) for way, letters in zip(ways_in(net), world[1])}

    def world(self):
        return (tuple(self.states[house] for house in self.net[0]),
                tuple(tuple(self.flights[way]) for way in ways_in(self.net)))

    def is_up(self, house):
        return self.states[house][0] == "up"

    def ties(self, house):
        return self.states[house][5] if self.is_up(house) else ()

    def row(self, house, other):
        """The row of other that isn't broken, or None."""
        for row in self.states[house][3]:
            if self.is_up(house) and row[0] == other and row[2] is not None:
                return row
        return None

    def why(self, deed):
        word, house = deed[:2]
        if not self.is_up(house) and word not in ("drop", "twice", "up"):
            return "down"
        if word == "up" and self.is_up(house):
            return "up"
        if word in ("find", "lose") and (deed[2] in self.states[house][5]) == (word == "find"):
            return "tie"
        if word in ("take", "drop", "twice") and len(self.flights[deed[2], house]) <= deed[3]:
            return "letter"
        if word in ("fail", "note") and not self.row(house, deed[2]):
            return "row"
        if word == "up" and self.rule == "wait":
            if [one for one in self.net[0] if house in self.ties(one)]:
                return "wait"
            if [way for way in self.flights if way[0] == house and self.flights[way]]:
                return "wait"
        return None

    def do(self, deed):
        word, house = deed[:2]
        state, sent = self.states[house], []
        if word == "take":
            state, sent = HouseTold(state, house).take(deed[2], self.flights[deed[2], house].pop(deed[3]))
        elif word == "drop":
            self.flights[deed[2], house].pop(deed[3])
        elif word == "twice":
            self.flights[deed[2], house].append(self.flights[deed[2], house][deed[3]])
        elif word == "stop":
            state = ("down",) + state[1:3] + (tuple((row[0], row[1] + (row[2] is not None)) for row in state[3]),)
            for way in self.flights:
                if way[1] == house:
                    self.flights[way] = []
        elif word == "up" and self.rule == "kept":
            state = ("up",) + state[1:3] + (tuple(known + (None, None) for known in state[3]), (), ())
        elif word == "up":
            state = FRESH
        else:
            state, sent = HouseTold(state, house).do(word, deed[2])
            if word == "lose":
                self.flights[deed[2], house] = []
        self.states[house] = state
        for other, letter in sent:
            self.flights[house, other].append(letter)
        return self.world()


def worlds_told(run):
    """Point 14: the worlds of a run."""
    rule, net, deeds = run
    worlds = [(tuple(FRESH for house in net[0]), tuple(() for way in ways_in(net)))]
    for deed in deeds:
        worlds.append(WorldTold(rule, net, worlds[-1]).do(deed))
    return worlds


def way_told(net, world, house, wanted):
    """Point 17: the way from a house to another one."""
    told = WorldTold("kept", net, world)
    houses = [house]
    while True:
        if houses[-1] == wanted:
            return ("there", houses)
        if houses[-1] in houses[:-1]:
            return ("round", houses)
        row = told.row(houses[-1], wanted)
        if row is None:
            return ("lost", houses)
        houses.append(row[3])


def has_ring(net, world):
    """Point 18: whether a way is "round"."""
    return "round" in [way_told(net, world, house, wanted)[0] for house in net[0] for wanted in net[0]]


def faults_told(net, world):
    """Point 19: all faults, each asked by itself."""
    states = dict(zip(net[0], world[0]))
    pairs = [(house, wanted) for house in net[0] for wanted in net[0]]

    def key(house, wanted):
        for row in states[house][3]:
            if row[0] == wanted:
                return (row[1], row[2] is not None, -(row[2] or 0))
        return (0, False, 0)

    def live(house, wanted):
        return [row for row in states[house][3] if states[house][0] == "up" and row[0] == wanted and row[2]]

    claims = []
    for way, letters in zip(ways_in(net), world[1]):
        for place, letter in enumerate(letters):
            if letter[0] != "broken":
                claims.append((way, place, letter[{"ask": 1, "answer": 2, "note": 1}[letter[0]]], letter[-1]))
    faults = []
    for house, wanted in pairs:
        for row in live(house, wanted):
            if states[row[3]][0] == "up" and row[3] != wanted and key(row[3], wanted) <= (row[1], True, -row[2]):
                faults.append(("row", house, wanted))
    for way, place, wanted, claim in claims:
        if states[way[0]][0] == "up" and way[0] != wanted and key(way[0], wanted) < (claim[0], True, -claim[1]):
            faults.append(("letter",) + way + (place,))
    for house, wanted in pairs:
        if states[house][0] == "down" and house != wanted:
            numbers = [row[1] for one in net[0] for row in live(one, wanted) if row[3] == house]
            numbers += [claim[0] for way, place, of, claim in claims if of == wanted and way[0] == house]
            known = dict(states[house][3])
            if [number for number in numbers if wanted not in known or known[wanted] <= number]:
                faults.append(("down", house, wanted))
    return faults


def pedigrees_told(run):
    """Point 22, from the beginning on: for each moment, by (house, wanted), the pedigree of what it knew then.

    Each letter carries with it where its claim was learnt, and each row where it was."""
    rule, net, deeds = run
    worlds = worlds_told(run)
    carried = {way: [] for way in ways_in(net)}
    known = {}
    moments = [{}]
    for at, deed in enumerate(deeds):
        word, house = deed[:2]
        ahead, behind = (rows_by_houses(net, world) for world in worlds[at:at + 2])
        taken = None
        if word in ("take", "drop"):
            taken = carried[deed[2], house].pop(deed[3])
        elif word == "twice":
            carried[deed[2], house].append(carried[deed[2], house][deed[3]])
        for way in carried:
            if way[1] == house and (word == "stop" or (word == "lose" and way[0] == deed[2])):
                carried[way] = []
        known = dict(known)
        for pair in set(ahead) | set(behind):
            if ahead.get(pair) != behind.get(pair):
                known.pop(pair, None)
                if pair in behind and behind[pair][2] is not None:
                    known[pair] = [(house, at + 1) + behind[pair][1:3]] + taken
        for way, letters in zip(ways_in(net), worlds[at + 1][1]):
            for letter in letters[len(carried[way]):]:
                carried[way].append(claimed(house, at + 1, letter, known))
        moments.append(known)
    return moments


def rows_by_houses(net, world):
    """All rows of a world by (house, wanted); a house that is down has none."""
    return {(house, row[0]): row for house, state in zip(net[0], world[0]) if state[0] == "up" for row in state[3]}


def claimed(sender, moment, letter, known):
    """Where a letter's claim was learnt, its sender first; None where it has no claim."""
    if letter[0] == "broken":
        return None
    wanted, claim = letter[{"ask": 1, "answer": 2, "note": 1}[letter[0]]], letter[-1]
    return [(sender, moment) + claim] + (known[sender, wanted][1:] if sender != wanted else [])


def is_still_told(net, world):
    """Point 23: whether a world is still."""
    if faults_told(net, world) or [letters for letters in world[1] if letters]:
        return False
    told = WorldTold("kept", net, world)
    for one, other in net[1]:
        both = told.is_up(one) and told.is_up(other) and other in told.ties(one) and one in told.ties(other)
        if not both and (other in told.ties(one) or one in told.ties(other)):
            return False
    return True


def has_kept_told(net, world):
    """Point 23: whether a world has kept its numbers."""
    states = dict(zip(net[0], world[0]))
    for house, state in states.items():
        if state[0] == "up":
            for wanted, number, steps, onward in state[3]:
                if states[wanted][0] == "up" and number > states[wanted][1] + (steps is None):
                    return False
            for asker, ask in state[4]:
                if states[asker][0] == "up" and ask > states[asker][2]:
                    return False
    return True


def turn_told(net, world):
    """Point 23: a turn, and how many letters were taken in it."""
    states = dict(zip(net[0], world[0]))
    waiting = {way: [] for way in ways_in(net)}
    taken = 0
    for (one, other), letters in zip(ways_in(net), world[1]):
        for letter in letters:
            if states[other][0] == "up":
                states[other], sent = HouseTold(states[other], other).take(one, letter)
                taken += 1
                for tie, new in sent:
                    waiting[other, tie].append(new)
    return ((tuple(states[house] for house in net[0]), tuple(tuple(waiting[way]) for way in ways_in(net))), taken)


def settled_told(net, world):
    """Point 23: turns till no letter is on a way."""
    turns = letters = 0
    while [on for on in world[1] if on]:
        world, taken = turn_told(net, world)
        turns, letters = turns + 1, letters + taken
    return (world, turns, letters)


def once_told(net, world, house, wanted):
    """Point 24, in a still world."""
    return settled_told(net, WorldTold("kept", net, world).do(("ask", house, wanted)))


def come_to_told(net, world, house):
    """Point 25: all to which a house can come by ties, itself too."""
    told = WorldTold("kept", net, world)
    come, waiting = set(), [house]
    while waiting:
        at = waiting.pop()
        if at not in come:
            come.add(at)
            waiting += told.ties(at)
    return tuple(sorted(come))


def till_told(net, world, house, wanted):
    """Point 25, in a still world that has kept its numbers."""
    asks = 0
    while way_told(net, world, house, wanted)[0] != "there":
        if WorldTold("kept", net, world).row(house, wanted):
            world = settled_told(net, WorldTold("kept", net, world).do(("fail", house, wanted)))[0]
        world = once_told(net, world, house, wanted)[0]
        asks += 1
        if way_told(net, world, house, wanted)[0] != "there" and not WorldTold("kept", net, world).row(house, wanted):
            return ("lack", world, asks, come_to_told(net, world, house))
    return ("found", world, asks, way_told(net, world, house, wanted)[1])


def mended_told(net, world, house, wanted, goer):
    """Point 26, in such a world; None where it finds no way."""
    word, found, asks, houses = till_told(net, world, house, wanted)
    if word == "lack":
        return None
    behind = settled_told(net, WorldTold("kept", net, found).do(("note", house, wanted)))[0]
    ways = [way_told(net, each, goer, wanted) for each in (world, behind)]
    return (behind,) + tuple(len(houses) - 1 if word == "there" else None for word, houses in ways)


def steps_told(rule, net, world, left, overtake):
    """Point 27: all steps, doings first, then letters by ways and places."""
    steps = []
    for doing in left:
        if WorldTold(rule, net, world).why(doing) is None:
            rest = tuple(other for other in left if other != doing)
            steps.append((doing, WorldTold(rule, net, world).do(doing), rest))
    for (one, other), letters in zip(ways_in(net), world[1]):
        for place in range(len(letters)):
            deed = ("take", other, one, place)
            if (overtake or place == 0) and WorldTold(rule, net, world).why(deed) is None:
                steps.append((deed, WorldTold(rule, net, world).do(deed), left))
    return steps


def all_worlds_told(run, doings, overtake, most):
    """Point 27: all (world, left), a set; or None where there are more than most of them."""
    rule, net, deeds = run
    found, waiting = set(), [(worlds_told(run)[-1], doings)]
    while waiting:
        world, left = waiting.pop()
        if (world, left) not in found:
            found.add((world, left))
            if len(found) > most:
                return None
            waiting += [(behind, rest) for deed, behind, rest in steps_told(rule, net, world, left, overtake)]
    return found


def search_told(run, doings, overtake, most):
    """Point 28: ("ring", how few deeds), ("none", all worlds), or None where there are more than most."""
    found = all_worlds_told(run, doings, overtake, most)
    if found is None:
        return None
    rule, net, deeds = run
    reached = {(worlds_told(run)[-1], doings)}
    for many in range(len(found) + 1):
        if [world for world, left in reached if has_ring(net, world)]:
            return ("ring", many)
        reached = {step[1:] for world, left in reached for step in steps_told(rule, net, world, left, overtake)}
    return ("none", found)


def lets_told(run, doings, paper, overtake):
    """Point 28: whether a paper, of a ring by a tuple of deeds or of none by a list of (world, left), is right."""
    rule, net, deeds = run
    first = (worlds_told(run)[-1], doings)
    if paper[0] == "ring":
        for deed in paper[1]:
            steps = {step[0]: step[1:] for step in steps_told(rule, net, first[0], first[1], overtake)}
            if deed not in steps:
                return False
            first = steps[deed]
        return has_ring(net, first[0])
    if first not in paper[1] or len(set(paper[1])) < len(paper[1]):
        return False
    for world, left in paper[1]:
        if has_ring(net, world) or list(left) != [doing for doing in doings if doing in left]:
            return False
        if not {step[1:] for step in steps_told(rule, net, world, left, overtake)} <= set(paper[1]):
            return False
    return True


def words(*parts):
    return " ".join(["-" if part is None else str(part) for part in parts])


def net_lines(net):
    """Point 30: the lines of a net."""
    return [words("house", house) for house in net[0]] + [words("pair", *pair) for pair in net[1]]


def state_lines(house, state):
    """Point 30: the lines of a state."""
    lines = [words(house, *state[:3])]
    if state[0] == "down":
        return lines + [words("known", *known) for known in state[3]]
    lines += [words("tie", tie) for tie in state[5]]
    lines += [words("row", *row) for row in state[3]]
    return lines + [words("seen", *seen) for seen in state[4]]


def letter_line(letter):
    """Point 30: a letter."""
    if letter[0] == "broken":
        return "broken " + " ".join([f"{house}:{number}" for house, number in letter[1]])
    return words(*letter[:-1], *letter[-1])


def world_lines(net, world):
    """Point 30: the lines of a world."""
    lines = [line for house, state in zip(net[0], world[0]) for line in state_lines(house, state)]
    for way, letters in zip(ways_in(net), world[1]):
        lines += [words("way", *way, letter_line(letter)) for letter in letters]
    return lines


def run_lines(run):
    """Point 30: the lines of a run."""
    return net_lines(run[1]) + [words("rule", run[0])] + [words(*deed) for deed in run[2]]


def judged(text, begun, may_stand, is_whole):
    """Point 31: the number of the line at which a text can't go on, or None, line by line.

    May_stand tells what has come of begun behind one line more, or None; is_whole whether no line lacks."""
    lines = text.split("\n")
    for at, line in enumerate(lines[:-1]):
        begun = may_stand(begun, line.split(" "))
        if begun is None:
            return at
    if lines[-1] or not is_whole(begun):
        return len(lines) - 1
    return None


NUMBER = re.compile(r"(0|[1-9][0-9]{0,999})\Z")
NAME = re.compile(r"[a-z]{1,8}\Z")


def judged_net(text):
    """Of a net: begun is the last line's words, and the houses ahead."""
    return judged(text, ((), ()), net_goes_on, lambda begun: len(begun[1]) >= 2)


def net_goes_on(begun, row):
    last, houses = begun
    if row[0] == "house" and len(row) == 2 and NAME.match(row[1]) and len(houses) < 5 and last[:1] in ((), ("house",)):
        return (tuple(row), houses + (row[1],)) if not houses or houses[-1] < row[1] else None
    if row[0] == "pair" and len(row) == 3 and len(houses) > 1 and row[1] < row[2] and {*row[1:]} <= {*houses}:
        return (tuple(row), houses) if last[0] == "house" or last < tuple(row) else None
    return None


def judged_run(text):
    """Of a run: begun is that of its net, or, behind its rule, a world by that rule and how many deeds were done."""
    return judged(text, ((), (), ()), run_goes_on, lambda begun: isinstance(begun[0], WorldTold))


def run_goes_on(begun, row):
    if isinstance(begun[0], WorldTold):
        told, done = begun
        deed = deed_told(row)
        if deed is None or done == 60 or not is_of_net(told.net, deed) or told.why(deed) is not None:
            return None
        told.do(deed)
        return (told, done + 1)
    last, houses, pairs = begun
    if row[0] == "rule" and len(row) == 2 and row[1] in ("kept", "wait", "bare") and len(houses) > 1:
        net = (houses, pairs)
        return (WorldTold(row[1], net, worlds_told((row[1], net, ()))[0]), 0)
    on = net_goes_on((last, houses), row)
    return on and on + (pairs + (tuple(row[1:]),) if row[0] == "pair" else pairs,)


def deed_told(row):
    """Point 30: the deed of these words, of whatever names, or None."""
    forms = {"find": "nn", "lose": "nn", "ask": "nn", "fail": "nn", "note": "nn", "take": "nn#", "drop": "nn#",
             "twice": "nn#", "stop": "n", "up": "n"}
    form = forms.get(row[0])
    if form is None or len(form) != len(row) - 1:
        return None
    if not all([(NAME if kind == "n" else NUMBER).match(word) for kind, word in zip(form, row[1:])]):
        return None
    return tuple(row[:3]) + tuple([int(word) for word in row[3:]])


def is_of_net(net, deed):
    """Point 12: whether such a tuple is a deed of the net."""
    if not {*deed[1:3]} <= {*net[0]} or len({*deed[1:3]}) != len(deed[1:3]):
        return False
    return deed[0] in ("ask", "fail", "note", "stop", "up") or tuple(deed[1:3]) in ways_in(net)


def judged_world(net, text):
    """Of a world: begun is how many houses have begun, and what the last of them, or the ways, have so far."""
    return judged(text, (0, None, ()), lambda begun, row: world_goes_on(net, begun, row), lambda begun: begun[0] == len(net[0]))


def world_goes_on(net, begun, row):
    many, word, ahead = begun
    house = net[0][many - 1]
    if len(row) == 4:
        is_head = many < len(net[0]) and row[0] == net[0][many] and row[1] in ("up", "down")
        return (many + 1, row[1], ()) if is_head and NUMBER.match(row[2]) and NUMBER.match(row[3]) else None
    if len(row) > 4 and row[0] == "way" and many == len(net[0]):
        way = tuple(row[1:3])
        fits = way in ways_in(net) and letter_fits(net, row[3:]) and (word != "way" or ahead <= way)
        return (many, "way", way) if fits else None
    if many == 0 or word not in ("up", "down"):
        return None
    # In the order in which they come, each kind of line behind the ones ahead of it, and rising.
    parts = line_parts(net, house, word, ahead, row)
    if parts is None or [part for part in ahead if part[0] > parts[0] or (part[0] == parts[0] and part[1] >= parts[1])]:
        return None
    return (many, word, ahead + (parts,))


def line_parts(net, house, word, ahead, row):
    """Of a line of a state: which kind of line it is, and by what such lines rise; None where it is none."""
    ties = [part[1] for part in ahead if part[0] == 0]
    if word == "up" and row[0] == "tie" and len(row) == 2 and (house, row[1]) in ways_in(net):
        return (0, row[1])
    if word == "up" and row[0] == "row" and len(row) == 5 and row[1] in net[0] and row[1] != house and is_from_one(row[2]):
        return (1, row[1]) if row[3:] == ["-", "-"] or (is_from_one(row[3]) and row[4] in ties) else None
    if word == "up" and row[0] == "seen" and len(row) == 3 and row[1] in net[0] and is_from_one(row[2]):
        return (2, (row[1], int(row[2])))
    if word == "down" and row[0] == "known" and len(row) == 3 and row[1] in net[0] and row[1] != house and is_from_one(row[2]):
        return (0, row[1])
    return None


def is_from_one(word):
    return bool(NUMBER.match(word)) and word != "0"


def letter_fits(net, row):
    """Point 30: whether these words are a letter of the net."""
    houses = "(" + "|".join(net[0]) + ")"
    one, any_number = "[1-9][0-9]{0,999}", "(0|[1-9][0-9]{0,999})"
    text = " ".join(row)
    for form in (f"ask {houses} {one} (?!\\1 ){houses} {any_number} {one} {any_number}",
                 f"answer {houses} (?!\\1 ){houses} {one} {any_number}", f"note {houses} {one} {any_number}"):
        if re.fullmatch(form, text):
            return True
    parts = [part.split(":") for part in row[1:]]
    names = [part[0] for part in parts]
    return row[0] == "broken" and bool(parts) and names == sorted(set(names)) and {*names} <= {*net[0]} and all(
        [len(part) == 2 and is_from_one(part[1]) for part in parts])
