"""Point 3, sentence by sentence, over drawn runs: what the document promises over the whole program."""

import itertools
import random
import unittest

from askedways.asking import asks_once, asks_till, shows_lack
from askedways.deeds import world_behind
from askedways.desk import Desk
from askedways.errors import NoWay, NoWorld, TooMany
from askedways.field import Field
from askedways.house import House
from askedways.labels import is_nearer
from askedways.mending import mended
from askedways.parcels import Parcels, comes_nearer
from askedways.pedigrees import is_pedigree, pedigree
from askedways.ranks import is_ranked, ranked
from askedways.reader import read_deed, read_net, read_run, read_world
from askedways.runs import end_of, knew, run_of, worlds_of
from askedways.search import lets_search, ring_run
from askedways.sound import is_sound
from askedways.still import has_kept, is_still, settled
from askedways.texts import deed_text, net_text, run_text, world_text
from askedways.ways import fall_of, is_ring, ring_in, way_to
from askedways.worlds import flying, state_of
from kinds import FULL, LINE, SQUARE, TWO, WEIGHTS, drawn_net, drawn_run, drawn_still_world
from telling import come_to_told, worlds_told
from test_search import RING
from test_steps import ANEW, STOPPED, drawn_doings

SEEDS = range(30)
# Ties come often and go, houses stop and come up, letters come late, never, twice, or overtake.
OFTEN = dict(WEIGHTS, find=30, take=40, ask=5, stop=1, up=6, lose=1, twice=3, drop=1, note=4, fail=1)


def drawn(at, rules=("kept", "wait", "bare"), weights=OFTEN):
    """The run of this number, and its dice."""
    dice = random.Random(at)
    return dice, drawn_run(dice, rules[at % len(rules)], (TWO, LINE, SQUARE, FULL)[at % 4], 60, weights)


class Whole(unittest.TestCase):
    def test_by_kept_and_by_wait_no_ring_ever_stands(self):
        for at in SEEDS:
            dice, run = drawn(at, ("kept", "wait"))
            for world in worlds_of(run):
                self.assertIsNone(ring_in(run[1], world))
                self.assertIs(is_sound(run[1], world), True)
                for wanted in run[1][0]:
                    self.assertIs(is_ranked(run[1], world, wanted, ranked(run[1], world, wanted)), True)

    def test_what_a_house_knows_never_goes_back(self):
        for at in SEEDS:
            dice, run = drawn(at)
            worlds = worlds_of(run)
            for house in run[1][0]:
                states = [state_of(run[1], world, house) for world in worlds]
                for deed, ahead, behind in zip(run[2], states, states[1:]):
                    # By "kept" through stops, too; by the others in one life.
                    if run[0] == "kept" or deed[:2] != ("up", house):
                        for wanted in run[1][0]:
                            self.assertIs(is_nearer(known(ahead, wanted), known(behind, wanted)), False)
                        self.assertGreaterEqual(behind[1], ahead[1])
                        self.assertGreaterEqual(behind[2], ahead[2])

    def test_along_each_way_it_comes_nearer(self):
        steps = 0
        for at in SEEDS:
            dice, run = drawn(at, ("kept", "wait"))
            for world in worlds_of(run)[::3]:
                for house, wanted in itertools.permutations(run[1][0], 2):
                    word, houses = way_to(run[1], world, house, wanted)
                    fall = fall_of(run[1], world, house, wanted)
                    self.assertEqual(len(fall), len(houses) - 1)
                    for one, other in zip(fall, fall[1:]):
                        self.assertIs(is_nearer(other, one), True)
                        steps += 1
        self.assertGreater(steps, 200)

    def test_by_bare_a_run_that_makes_a_ring_is_told(self):
        run = run_of("bare", LINE, STOPPED)
        word, deeds = ring_run(run, ANEW)
        self.assertEqual(word, "ring")
        self.assertIs(lets_search(run, ANEW, (word, deeds)), True)
        ring = ring_in(LINE, end_of(run_of("bare", LINE, STOPPED + deeds)))
        self.assertIs(is_ring(LINE, end_of(run_of("bare", LINE, STOPPED + deeds)), ring), True)
        for rule in ("kept", "wait"):
            self.assertEqual(ring_run(run_of(rule, LINE, STOPPED), ANEW)[0], "none")

    def test_each_label_was_learnt_along_ties_from_the_wanted_house_on(self):
        walked = 0
        for at in SEEDS:
            dice, run = drawn(at)
            for house, wanted in itertools.permutations(run[1][0], 2):
                moment = dice.randint(0, 60)
                told = pedigree(run, house, wanted, moment)
                state = knew(run, house, moment)
                rows = [row for row in state[3] if state[0] == "up" and row[0] == wanted and row[2] is not None]
                self.assertEqual(told is None, not rows)
                if told:
                    self.assertIs(is_pedigree(run, house, wanted, moment, told), True)
                    self.assertEqual((told[0][0],) + told[0][2:], (house,) + rows[0][1:3])
                    self.assertEqual((told[-1][0], told[-1][3]), (wanted, 0))
                    self.assertEqual(knew(run, wanted, told[-1][1])[1], told[-1][2])
                    for one, other in zip(told, told[1:]):
                        self.assertGreater(one[1], other[1])
                        self.assertIn(one[0], knew(run, other[0], other[1])[5])
                    walked += 1
        self.assertGreater(walked, 40)

    def test_a_parcel_comes_to_its_house_or_is_lost_at_a_place(self):
        words = []
        for at in SEEDS:
            dice, run = drawn(at, ("kept", "wait"))
            parcels = Parcels(run[0], run[1], begun=run[2][:40])
            for house, wanted in list(itertools.permutations(run[1][0], 2))[:30]:
                number = parcels.send(house, wanted)
                steps = 0
                while parcels.move(number) == "on":
                    steps += 1
                self.assertLess(steps, len(run[1][0]))
                where, for_house, word = parcels.parcels()[number]
                self.assertEqual((word == "there", for_house), (where == wanted, wanted))
                self.assertIs(comes_nearer(parcels.trail(number)), True)
                words.append(word)
        self.assertEqual(set(words), {"there", "lost"})

    def test_a_parcel_never_goes_round_by_kept_whatever_deeds_are_done_meanwhile(self):
        for at in SEEDS:
            dice, run = drawn(at, ("kept",))
            parcels = Parcels("kept", run[1])
            for deed in run[2]:
                parcels.do(deed)
                if len(parcels) < 30:
                    parcels.send(*dice.sample(run[1][0], 2))
                for number in range(len(parcels)):
                    if dice.random() < 0.2:
                        parcels.move(number)
            for number in range(len(parcels)):
                self.assertIs(comes_nearer(parcels.trail(number)), True)

    def test_where_ties_hold_still_a_way_is_found_or_its_lack_is_told(self):
        found = []
        for at in range(60):
            dice, run = drawn(at, ("kept",), dict(WEIGHTS, take=60))
            net, world = run[1], end_of(run)
            # Ties that one side alone hears are lost, and all letters taken: then they hold still.
            for house, state in zip(net[0], world[0]):
                for other in state[5] if state[0] == "up" else ():
                    heard = state_of(net, world, other)
                    if heard[0] == "down" or house not in heard[5]:
                        world = world_behind("kept", net, world, ("lose", house, other))
            world = settled(net, world)[0]
            self.assertIs(is_still(net, world) and has_kept(net, world), True)
            self.ask_all(net, world, found)
        for at in range(60):
            dice = random.Random(at)
            net = drawn_net(dice)
            self.ask_all(net, drawn_still_world(dice, net), found)
        self.assertEqual(set(found), {"found", "lack"})

    def ask_all(self, net, world, found):
        for house, wanted in itertools.permutations(net[0], 2):
            if state_of(net, world, house)[0] == "down":
                self.assertRaises(NoWorld, asks_once, net, world, house, wanted)
                self.assertRaises(NoWorld, asks_till, net, world, house, wanted)
                continue
            ties = sum([len(state[5]) for state in world[0] if state[0] == "up"])
            behind, turns, letters = asks_once(net, world, house, wanted)
            self.assertLessEqual(turns, 2 * len(net[0]))
            self.assertLessEqual(letters, ties + 2 * len(net[0]) ** 2)
            word, behind, asks, houses = asks_till(net, world, house, wanted)
            self.assertLess(asks, len(net[0]))
            can = wanted in come_to_told(net, world, house)
            self.assertEqual(word, "found" if can else "lack")
            found.append(word)
            if can:
                self.assertEqual(way_to(net, behind, house, wanted), ("there", houses))
                self.assertEqual(mended(net, world, house, wanted, goer=house)[2], len(houses) - 1)
            else:
                self.assertIs(shows_lack(net, world, house, wanted, houses), True)
                self.assertRaises(NoWay, mended, net, world, house, wanted, goer=house)

    def test_all_runs_by_some_doings_are_gone_through(self):
        words = {}
        for at in range(60):
            dice, run = drawn(at, weights=dict(WEIGHTS, take=60))
            doings = drawn_doings(dice, run[1], 3)
            for overtake in (False, True):
                try:
                    told = ring_run(run, doings, overtake=overtake)
                except TooMany as refusal:
                    self.assertEqual(refusal.most, 300)
                    continue
                self.assertIs(lets_search(run, doings, told, overtake=overtake), True)
                # What shows the one shows nothing of the other.
                self.assertIs(lets_search(run, doings, ("ring" if told[0] == "none" else "none", told[1]), overtake=overtake), False)
                words[run[0], told[0]] = words.get((run[0], told[0]), 0) + 1
        self.assertNotIn(("kept", "ring"), words)
        self.assertNotIn(("wait", "ring"), words)

    def test_a_field_of_houses_and_the_plain_telling_are_alike(self):
        for at in SEEDS:
            dice, run = drawn(at)
            rule, net, deeds = run
            worlds = worlds_of(run)
            self.assertEqual(repr(worlds), repr(worlds_told(run)))
            field = Field(rule, net)
            houses = {house: House(net, house) for house in net[0]}
            for deed, ahead, behind in zip(deeds, worlds, worlds[1:]):
                field.do(deed)
                self.assertEqual(repr(field.world()), repr(behind))
                self.do_alone(houses, net, deed, ahead, behind)
            self.assertEqual(field.run(), run)
            for again in range(20):
                field.back()
            self.assertEqual((field.world(), field.run()), (worlds[40], (rule, net, deeds[:40])))

    def do_alone(self, houses, net, deed, ahead, behind):
        """Does a deed with the house object alone; what it is and sends is what the worlds show."""
        word, house = deed[:2]
        if word == "stop":
            houses[house] = None
        elif word == "up":
            houses[house] = House(net, house, start=state_of(net, behind, house))
        elif word not in ("drop", "twice"):
            acts = {name: getattr(houses[house], name) for name in ("take", "find", "lose", "ask", "fail", "note")}
            letter = [flying(net, ahead, deed[2], house)[deed[3]]] if word == "take" else []
            for other, sent in acts[word](deed[2], *letter):
                self.assertIn(sent, flying(net, behind, house, other))
        for name, one in houses.items():
            if one is not None:
                self.assertEqual(repr(one.state()), repr(state_of(net, behind, name)))
        for name in net[0]:
            self.assertEqual(houses[name] is None, state_of(net, behind, name)[0] == "down")

    def test_what_each_house_knew_at_each_moment_is_told(self):
        for at in SEEDS:
            dice, run = drawn(at)
            for again in range(10):
                house, moment = dice.choice(run[1][0]), dice.randint(0, 60)
                part = run_of(run[0], run[1], run[2][:moment])
                self.assertEqual(repr(knew(run, house, moment)), repr(state_of(run[1], end_of(part), house)))
                self.assertEqual(knew(run, house, moment), Field(run[0], run[1], begun=run[2][:moment]).state(house))

    def test_what_is_written_is_read_back(self):
        for at in SEEDS:
            dice, run = drawn(at)
            self.assertEqual(repr(read_run(run_text(run))), repr(run))
            self.assertEqual(repr(read_net(net_text(run[1]))), repr(run[1]))
            for world in worlds_of(run)[::10]:
                self.assertEqual(repr(read_world(run[1], world_text(run[1], world))), repr(world))
            for deed in run[2]:
                self.assertEqual(repr(read_deed(deed_text(deed))), repr(deed))
            desk = Desk(run_text(run))
            self.assertEqual(repr(read_run(desk.say("run") + "\n")), repr(run))
            self.assertEqual(repr(read_world(run[1], desk.say("world") + "\n")), repr(end_of(run)))

    def test_the_ring_of_the_searches_is_one(self):
        run = run_of("bare", LINE, STOPPED + RING[1])
        self.assertEqual(ring_in(LINE, end_of(run)), ("cyd", ["ann", "bob"]))


class Papers(unittest.TestCase):
    """Whatever paper is let by, whoever wrote it, is right."""

    def test_rankings(self):
        let = 0
        for at in SEEDS:
            dice, run = drawn(at, ("bare",))
            world = end_of(run)
            for wanted in run[1][0]:
                paper = [wanted] + dice.sample([house for house in run[1][0] if house != wanted], len(run[1][0]) - 1)
                if is_ranked(run[1], world, wanted, paper):
                    let += 1
                    for house in run[1][0]:
                        self.assertNotEqual(way_to(run[1], world, house, wanted)[0], "round")
        self.assertGreater(let, 10)

    def test_pedigrees(self):
        for at in SEEDS:
            dice, run = drawn(at)
            house, wanted = dice.sample(run[1][0], 2)
            told = pedigree(run, house, wanted, 60)
            for moment in range(0, 61, 6):
                if is_pedigree(run, house, wanted, moment, told):
                    self.assertEqual(pedigree(run, house, wanted, moment), told)

    def test_lacks(self):
        let = 0
        for at in range(200):
            dice = random.Random(at)
            net = drawn_net(dice)
            world = drawn_still_world(dice, net)
            house, wanted = dice.sample(net[0], 2)
            paper = tuple([one for one in net[0] if one == house or dice.random() < 0.5])
            if shows_lack(net, world, house, wanted, paper):
                let += 1
                self.assertNotIn(wanted, come_to_told(net, world, house))
        self.assertGreater(let, 10)


def known(state, wanted):
    """What a state, up or down, knows of another house, as a label."""
    for row in state[3]:
        if row[0] == wanted:
            return (row[1], row[2] if state[0] == "up" else None)
    return None


if __name__ == "__main__":
    unittest.main()
