"""Conditions, effects, and the rules that fit a deed."""

from worldtale.reach import is_within
from worldtale.world import HOLDER_TRAITS


def holds_now(world, state, condition):
    """Whether a condition holds."""
    negated, sort, one, other = condition
    return is_so(state, sort, one, other) != negated


def is_so(state, sort, one, other):
    """Whether a condition holds, its not aside."""
    if sort == "is":
        return state.number_of(one) == other
    if sort == "you":
        return state.here() == one
    if sort == "open":
        return state.is_open(one)
    if sort == "worn":
        return state.is_worn(one)
    where = (sort,) if other == "" else (sort, other)
    return state.where(one) == where


def holds_all(world, state, conditions):
    """Whether all conditions hold."""
    return all([holds_now(world, state, condition) for condition in conditions])


def do_effects(world, state, effects):
    """Does effects one by one: their lines, and whether one stopped them."""
    lines = []
    for effect in effects:
        if effect[0] == "stop":
            return (lines, True)
        if effect[0] == "say":
            lines.append(effect[1])
        if effect[0] == "set":
            state.set_number(effect[1], effect[2])
        if effect[0] == "move":
            move_unless_ring(state, effect[1], effect[2])
    return (lines, False)


def move_unless_ring(state, thing, where):
    """Moves a thing, but where it would hold itself by that."""
    if where[0] not in HOLDER_TRAITS or not is_within(state, where[1], thing):
        state.move_thing(thing, where)


def fitting_order(world, book, verb, about):
    """The rules of a book that fit a verb and what it is about, in the order in which they are looked at."""
    rules = world.told()[4]
    fitting = [rule for rule in rules if rule[:2] == (book, verb) and rule[2] in ("", about)]
    return sorted(fitting, key=place_in_book)


def place_in_book(rule):
    """What rules are ordered by: named ones ahead, then the ones with more conditions."""
    about, conditions = rule[2:4]
    return (about == "", -len(conditions))


def first_holding(world, state, book, verb, about):
    """The first rule that fits and whose conditions hold, or None."""
    for rule in fitting_order(world, book, verb, about):
        if holds_all(world, state, rule[3]):
            return rule
    return None
