"""How well things suit a verb, and what is meant of several."""

from worldtale.phrases import fits_noun
from worldtale.reach import root_of, seen_things
from worldtale.readings import all_readings, but_nouns
from worldtale.state import WITH_YOU
from worldtale.world import HOLDER_TRAITS


def rank_of(state, verb, thing):
    """0 of a thing that suits the verb, else 1."""
    suits = SUITED[verb]
    return 0 if suits(state, thing) else 1


def suits_take(state, thing):
    return root_of(state, thing) != WITH_YOU


def suits_hand(state, thing):
    return state.where(thing) == WITH_YOU


def suits_open(state, thing):
    return state.told_world().has_lid(thing) and not state.is_open(thing)


def suits_shut(state, thing):
    return state.is_open(thing)


def suits_doff(state, thing):
    return state.is_worn(thing)


SUITED = {
    "take": suits_take,
    "drop": suits_hand,
    "put": suits_hand,
    "open": suits_open,
    "shut": suits_shut,
    "wear": suits_hand,
    "doff": suits_doff,
}


def holder_rank(state, link, thing):
    """0 of a holder that suits in or on, else 1."""
    holds = state.told_world().has_trait(thing, HOLDER_TRAITS[link])
    return 0 if holds and (link == "on" or state.is_open(thing)) else 1


def best_readings(state, clause, it):
    """The readings whose rows of ranks are least, in order."""
    readings = all_readings(state, clause, it)
    rows = [rank_row(state, clause, reading) for reading in readings]
    least = min(rows, default=[])
    return [reading for reading, row in zip(readings, rows) if row == least]


def rank_row(state, clause, reading):
    """The ranks of the things of a reading, in order, then of the holder."""
    if clause.holder is None:
        return [rank_of(state, clause.verb, thing) for thing in reading]
    things = [rank_of(state, clause.verb, thing) for thing in reading[:-1]]
    return [*things, holder_rank(state, clause.link, reading[-1])]


def all_meant(state, clause, holder):
    """What "all" means in a clause with it, in the world's order."""
    world = state.told_world()
    nouns = but_nouns(clause)
    suited = [thing for thing in seen_things(state) if rank_of(state, clause.verb, thing) == 0]
    return [thing for thing in suited if thing != holder and not fits_any(world, thing, nouns)]


def fits_any(world, thing, nouns):
    return any([fits_noun(world, thing, noun) for noun in nouns])
