"""Pedigrees: from which house to which a label was learnt, back to the wanted house itself."""

from askedways.labels import live_row_in, row_in
from askedways.letters import claim_of
from askedways.posts import posts_of
from askedways.runs import worlds_of
from askedways.shapes import is_same
from askedways.worlds import state_of


def pedigree(run, house, wanted, moment):
    """The pedigree of the label by which a house knew a way to the wanted one at a moment, or None."""
    net, worlds = run[1], worlds_of(run)
    row = live_row_in(state_of(net, worlds[moment], house), wanted)
    if row is None:
        return None
    posts = posts_of(run)
    told = [(house, learnt_at(net, worlds, house, wanted, moment) + 1, row[1], row[2])]
    while told[-1][0] != wanted:
        learner, known = told[-1][0], told[-1][1]
        told.append(sent_by(run, posts, learnt_at(net, worlds, learner, wanted, known)))
    return told


def is_pedigree(run, house, wanted, moment, thing):
    """Whether this is the pedigree of that label, of whatever it is."""
    told = pedigree(run, house, wanted, moment)
    return told is not None and is_same(thing, told)


def learnt_at(net, worlds, house, wanted, moment):
    """The last deed ahead of a moment behind which the house has another row of the wanted one than ahead of it."""
    rows = [row_in(state_of(net, world, house), wanted) for world in worlds]
    return max([at for at in range(moment) if rows[at] != rows[at + 1]])


def sent_by(run, posts, at):
    """Of the letter that this deed took: who sent it, how many deeds were done then, and what it claims."""
    post, sender, taker, letter, taken = [row for row in posts if row[4] == at][0]
    number, steps = claim_of(letter)[1]
    return (sender, first_of(run, posts, post)[0] + 1, number, steps)


def first_of(run, posts, post):
    """The post of the letter that was sent, where the one at this post is there by "twice"."""
    first = post
    deed = run[2][first[0]]
    while deed[0] == "twice":
        first = lying_at(posts, (deed[2], deed[1]), first[0])[deed[3]]
        deed = run[2][first[0]]
    return first


def lying_at(posts, way, at):
    """The posts of the letters on a way ahead of a deed, in order."""
    return [post for post, one, other, letter, taken in posts
            if (one, other) == way and post[0] < at and (taken is None or taken >= at)]
