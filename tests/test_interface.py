"""The interface of the document: each name in its module, with its arguments, as it is written there."""

import importlib
import inspect
import unittest

FUNCTIONS = {
    "names": ("is_name(thing)", "is_whole(thing)"),
    "nets": ("is_net(thing)", "neighbours_of(net, house)", "ways_of(net)"),
    "labels": ("is_label(thing)", "is_nearer(one, other)", "label_in(state, house, wanted)", "row_in(state, wanted)"),
    "states": ("is_state(net, house, thing)", "fresh_state()"),
    "letters": ("is_letter(net, thing)", "claim_of(letter)"),
    "worlds": ("is_world(net, thing)", "fresh_world(net)", "state_of(net, world, house)", "flying(net, world, one, other)"),
    "learning": ("learnt(state, house, wanted, label, other)", "broken_by(state, wanted, number)"),
    "taking": ("takes_letter(state, house, other, letter)",),
    "doing": ("finding(state, other)", "losing(state, other)", "asking(state, house, wanted)", "failing(state, wanted)", "noting(state, wanted)"),
    "deeds": ("why_not(rule, net, world, deed)", "world_behind(rule, net, world, deed)"),
    "runs": ("run_of(rule, net, deeds)", "worlds_of(run)", "end_of(run)", "knew(run, house, moment)"),
    "ways": ("way_to(net, world, house, wanted)", "ring_in(net, world)", "is_ring(net, world, thing)", "fall_of(net, world, house, wanted)"),
    "ranks": ("ranked(net, world, wanted)", "is_ranked(net, world, wanted, thing)"),
    "sound": ("faults_in(net, world)", "is_sound(net, world)"),
    "posts": ("posts_of(run)",),
    "pedigrees": ("pedigree(run, house, wanted, moment)", "is_pedigree(run, house, wanted, moment, thing)"),
    "still": ("is_still(net, world)", "has_kept(net, world)", "one_turn(net, world)", "settled(net, world)"),
    "asking": ("asks_once(net, world, house, wanted)", "asks_till(net, world, house, wanted)", "shows_lack(net, world, house, wanted, thing)"),
    "mending": ("mended(net, world, house, wanted, *, goer)",),
    "steps": ("steps_from(rule, net, world, left, *, overtake=False)", "all_worlds(run, doings, *, overtake=False, limit=300)"),
    "search": ("ring_run(run, doings, *, overtake=False, limit=300)", "lets_search(run, doings, thing, *, overtake=False)"),
    "texts": ("net_text(net)", "state_text(house, state)", "letter_text(letter)", "world_text(net, world)", "deed_text(deed)", "run_text(run)"),
    "reader": ("read_net(text)", "read_world(net, text)", "read_deed(text)", "read_run(text)"),
    "parcels": ("comes_nearer(thing)",),
}
CLASSES = {
    "house": ("House(net, house, *, start=None)", "take(other, letter)", "find(other)", "lose(other)", "ask(wanted)", "fail(wanted)", "note(wanted)",
              "has(wanted)", "state()", "__len__()", "__eq__(other)"),
    "field": ("Field(rule, net, *, begun=())", "do(deed)", "do_all(deeds)", "back()", "world()", "run()", "state(house)", "twin()", "__len__()",
              "__eq__(other)"),
    "desk": ("Desk(text)", "say(row)"),
    "parcels": ("Parcels(rule, net, *, begun=())", "do(deed)", "send(house, wanted)", "move(number)", "trail(number)", "parcels()", "world()", "run()",
                "twin()", "__len__()"),
}


class Interface(unittest.TestCase):
    def module(self, name):
        return importlib.import_module("askedways." + name)

    def test_functions(self):
        for name, functions in FUNCTIONS.items():
            for written in functions:
                function = getattr(self.module(name), written.split("(")[0])
                self.assertEqual(function.__name__ + str(inspect.signature(function)), written)
                self.assertEqual(function.__module__, "askedways." + name)

    def test_classes(self):
        for name, (made, *methods) in CLASSES.items():
            kind = getattr(self.module(name), made.split("(")[0])
            self.assertEqual(kind.__name__ + str(inspect.signature(kind)), made)
            for written in methods:
                # In the class itself, not only in one above it.
                method = vars(kind)[written.split("(")[0]]
                self.assertEqual(method.__name__ + str(inspect.signature(method)).replace("self, ", "").replace("self", ""), written)


if __name__ == "__main__":
    unittest.main()
