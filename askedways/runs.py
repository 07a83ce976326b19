"""Runs: deeds one behind the other, and the worlds behind them."""

from askedways.deeds import why_not, world_behind, world_done
from askedways.errors import NoRun
from askedways.worlds import fresh_world, state_of

MOST_DEEDS = 60


def run_of(rule, net, deeds):
    """The run of these deeds, of whatever things they are; refused where they are no deeds of one."""
    world = fresh_world(net)
    for at, deed in enumerate(deeds):
        why = why_not_next(rule, net, world, at, deed)
        if why is not None:
            raise NoRun(at, why)
        world = world_done(rule, net, world, deed)
    return (rule, net, tuple(deeds))


def why_not_next(rule, net, world, done, deed):
    """Why this can't be done behind so many deeds of a run, in the world behind them, or None."""
    return "many" if done >= MOST_DEEDS else why_not(rule, net, world, deed)


def worlds_of(run):
    """The worlds of a run: the fresh one, and that behind each deed."""
    rule, net, deeds = run
    worlds = [fresh_world(net)]
    for deed in deeds:
        worlds.append(world_behind(rule, net, worlds[-1], deed))
    return worlds


def end_of(run):
    """The world behind all deeds of a run."""
    return worlds_of(run)[-1]


def knew(run, house, moment):
    """The state of the house behind so many deeds of a run."""
    return state_of(run[1], worlds_of(run)[moment], house)
