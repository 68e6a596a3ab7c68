"""How things are named, and what looking and listing tell."""

from worldtale.reach import doors_at, is_lit, seen_things
from worldtale.state import WITH_YOU

VOWELS = "aeiou"
LINKS_AHEAD = {"in": "In", "on": "On"}


def the_name(world, thing):
    """A thing by "the", its adjectives and its noun."""
    return f"the {bare_name(world, thing)}"


def a_name(world, thing):
    """A thing by "a" or "an", its adjectives and its noun."""
    name = bare_name(world, thing)
    return f"an {name}" if name[0] in VOWELS else f"a {name}"


def bare_name(world, thing):
    return " ".join([*world.adjectives_of(thing), world.noun_of(thing)])


def joined_names(texts):
    """Several names with commas between, but "and" ahead of the last one."""
    return joined_by(texts, "and")


def joined_by(texts, word):
    if len(texts) < 2:
        return "".join(texts)
    ahead = ", ".join(texts[:-1])
    return f"{ahead} {word} {texts[-1]}"


def asked_text(world, things):
    """The question which of some things is meant."""
    names = joined_by([the_name(world, thing) for thing in things], "or")
    return f"Which, {names}?"


def a_names(world, things):
    return joined_names([a_name(world, thing) for thing in things])


def look_lines(world, state):
    """What looking tells, row by row."""
    if not is_lit(state, state.here()):
        return ["It is dark."]
    return [f"{state.here()}.", *ways_rows(world, state), *here_rows(world, state), *held_rows(world, state)]


def ways_rows(world, state):
    """The row of the ways out, or none where there is no way."""
    ways = sorted([way_told(state, way) for way in world.ways_out(state.here())])
    names = ", ".join(ways)
    return [f"Ways: {names}."] if len(ways) > 0 else []


def way_told(state, way):
    _, direction, _, door = way
    return direction if door == "" or state.is_open(door) else f"{direction} (shut)"


def here_rows(world, state):
    """The row of what is at the place itself, its doors last, or none where nothing is."""
    things = [thing for thing in world.thing_names() if state.where(thing) == ("at", state.here())]
    things.extend(doors_at(state, state.here()))
    return [f"Here: {a_names(world, things)}."] if len(things) > 0 else []


def held_rows(world, state):
    """A row for each seen thing that has seen things in or on it."""
    rows = []
    seen = seen_things(state)
    for holder in seen:
        for link in LINKS_AHEAD:
            held = [thing for thing in seen if state.where(thing) == (link, holder)]
            if len(held) > 0:
                rows.append(f"{LINKS_AHEAD[link]} {the_name(world, holder)}: {a_names(world, held)}.")
    return rows


def hold_lines(world, state):
    """What you have: what you hold, then what you wear."""
    carried = [thing for thing in world.thing_names() if state.where(thing) == WITH_YOU]
    held = [thing for thing in carried if not state.is_worn(thing)]
    worn = [thing for thing in carried if state.is_worn(thing)]
    rows = [f"You hold {a_names(world, held)}."] if len(held) > 0 else []
    if len(worn) > 0:
        rows.append(f"You wear {a_names(world, worn)}.")
    return rows if len(rows) > 0 else ["You have nothing."]
