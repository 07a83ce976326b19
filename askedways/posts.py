"""Posts of a run: where each letter was put on its way, and what became of it."""

from askedways.deeds import flights_behind, parts_done
from askedways.nets import ways_of
from askedways.runs import worlds_of
from askedways.worlds import fresh_world


def posts_of(run):
    """All posts of a run, rising: (post, one, other, letter, taken)."""
    rule, net, deeds = run
    letters = []
    taken = {}
    # On each way, in the place of each letter, its post.
    flights = fresh_world(net)[1]
    for at, (deed, world) in enumerate(zip(deeds, worlds_of(run))):
        state, gone, put = parts_done(rule, net, world, deed)
        for way, place in gone:
            taken[post_at(net, flights, way, place)] = at
        new = [((at, place), way, letter) for place, (way, letter) in enumerate(put)]
        letters += new
        flights = flights_behind(net, flights, gone, [(way, post) for post, way, letter in new])
    return [(post, way[0], way[1], letter, taken.get(post)) for post, way, letter in letters]


def post_at(net, flights, way, place):
    """The post at this place of a way."""
    return flights[ways_of(net).index(way)][place]
