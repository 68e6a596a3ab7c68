"""Looks a world through, row by row, for what can't be in one."""

from worldtale.errors import BadWorld
from worldtale.world import HOLDER_TRAITS, SORTS

NAMED_SORTS = ("place", "thing", "state", "scene", "end")
PLACING_SORTS = ("at", "in", "on", "with", "nowhere")
UNFIT_FOR_DOORS = ("box", "stand", "fixed", "wear")


def look_through(world):
    """BadWorld of the first row in which something is so that may not be."""
    rolls = Rolls(world)
    for at, (sort, row) in enumerate(rolls.rows):
        what = fault_of(rolls, at)
        if what != "":
            raise BadWorld(what, own_name(sort, row))


class Rolls:
    """The rows of a world in the order of its text, and those that names are looked up in."""

    def __init__(self, world):
        told = world.told()
        self.rows = [(sort, row) for sort, rows in zip(SORTS, told) for row in rows]
        self.ways = told[2]
        self.named = {"place": first_rows(told[0]), "thing": first_rows(told[1]), "state": first_rows(told[3])}

    def has(self, sort, name):
        """Whether a row of this sort has this name."""
        return sort in self.named and name in self.named[sort]

    def where(self, thing):
        return self.named["thing"][thing][3]

    def traits(self, thing):
        return self.named["thing"][thing][4]

    def earlier(self, at, sort):
        """The rows of a sort ahead of a row."""
        return [row for other, row in self.rows[:at] if other == sort]


def first_rows(rows):
    """The first row of each name: a later one of that name is the wrong one."""
    found = {}
    for row in rows:
        found.setdefault(row[0], row)
    return found


def own_name(sort, row):
    if sort == "every":
        return "every"
    if sort in ("way", "rule"):
        return row[1]
    return row[0]


def is_twice(rolls, at):
    sort, row = rolls.rows[at]
    return sort in NAMED_SORTS and row[0] in [other[0] for kind in NAMED_SORTS for other in rolls.earlier(at, kind)]


def is_unknown(rolls, at):
    sort, row = rolls.rows[at]
    return any([not rolls.has(wanted, name) for wanted, name in names_asked(sort, row)])


def names_asked(sort, row):
    """The names in a row that other rows must have, each behind the sort of row that is wanted."""
    if sort == "thing":
        return where_names(row[3])
    if sort == "way":
        return way_names(row)
    found = about_names(row) if sort == "rule" else []
    for condition in conditions_in(sort, row):
        found.extend(condition_names(condition))
    for effect in effects_in(sort, row):
        found.extend(effect_names(effect))
    return found


def where_names(where):
    if where[0] == "at":
        return [("place", where[1])]
    if where[0] in HOLDER_TRAITS:
        return [("thing", where[1])]
    return []


def way_names(way):
    start, _, goal, door = way
    ends = [("place", start), ("place", goal)]
    return ends if door == "" else [*ends, ("thing", door)]


def about_names(rule):
    _, verb, about = rule[:3]
    if about == "":
        return []
    if verb == "go":
        return [("place", about)]
    # Waiting is about nothing, so no row has the name that is wanted there.
    return [("nothing", about)] if verb == "wait" else [("thing", about)]


def condition_names(condition):
    _, sort, one, other = condition
    if sort == "is":
        return [("state", one)]
    if sort == "you":
        return [("place", one)]
    if sort == "at":
        return [("thing", one), ("place", other)]
    if sort in HOLDER_TRAITS:
        return [("thing", one), ("thing", other)]
    return [("thing", one)]


def effect_names(effect):
    if effect[0] == "set":
        return [("state", effect[1])]
    if effect[0] == "move":
        return [("thing", effect[1]), *where_names(effect[2])]
    return []


def condition_groups(sort, row):
    """The groups of conditions in a row, each one a tuple."""
    if sort == "rule":
        return [row[3]]
    if sort == "scene":
        return [row[1], row[2]]
    return [row[1]] if sort in ("every", "end") else []


def conditions_in(sort, row):
    return [condition for group in condition_groups(sort, row) for condition in group]


def effects_in(sort, row):
    if sort == "rule":
        return list(row[4])
    return list(row[2]) if sort == "every" else []


def moves_in(sort, row):
    return [effect for effect in effects_in(sort, row) if effect[0] == "move"]


def is_alike(rolls, at):
    sort, row = rolls.rows[at]
    return sort == "thing" and looks_of(row) in [looks_of(other) for other in rolls.earlier(at, "thing")]


def looks_of(thing):
    """What a thing is named by, whatever the order of its adjectives."""
    return [thing[1], *sorted(thing[2])]


def is_unfit(rolls, at):
    """Whether a thing has traits that can't stand together."""
    sort, row = rolls.rows[at]
    traits = row[4] if sort == "thing" else ()
    box, door = "box" in traits, "door" in traits
    if box and "stand" in traits:
        return True
    if "clear" in traits and not box:
        return True
    if "shut" in traits and not box and not door:
        return True
    return door and any([trait in traits for trait in UNFIT_FOR_DOORS])


def is_misheld(rolls, at):
    """Whether a row puts a thing in what is no box or on what is no stand."""
    sort, row = rolls.rows[at]
    wheres = [row[3]] if sort == "thing" else [move[2] for move in moves_in(sort, row)]
    return any([not can_hold(rolls, where) for where in wheres])


def can_hold(rolls, where):
    if where[0] not in HOLDER_TRAITS:
        return True
    return HOLDER_TRAITS[where[0]] in rolls.traits(where[1])


def is_ring(rolls, at):
    """Whether a thing holds itself, by however many steps."""
    sort, row = rolls.rows[at]
    return sort == "thing" and row[0] in holders_of(rolls, row[0])


def holders_of(rolls, thing):
    """The holders of a thing, each once, as a ring has no last one."""
    found = []
    where = rolls.where(thing)
    while where[0] in HOLDER_TRAITS and where[1] not in found and rolls.has("thing", where[1]):
        found.append(where[1])
        where = rolls.where(where[1])
    return found


def is_misdoored(rolls, at):
    """Whether a door is out of its place, a way goes wrongly by one, or one is asked for or moved."""
    sort, row = rolls.rows[at]
    if sort == "thing":
        return "door" in row[4] and (row[3] != ("nowhere",) or row[0] not in [way[3] for way in rolls.ways])
    if sort == "way":
        return row[3] != "" and is_bad_passage(rolls, row, rolls.earlier(at, "way"))
    asked = [condition[2] for condition in conditions_in(sort, row) if condition[1] in PLACING_SORTS]
    moved = [move[1] for move in moves_in(sort, row)]
    return any(["door" in rolls.traits(name) for name in [*asked, *moved]])


def is_bad_passage(rolls, way, earlier):
    """Whether a way by a thing can't go by it, as it is no door or has its ways."""
    start, _, goal, door = way
    if "door" not in rolls.traits(door):
        return True
    others = [(other[0], other[2]) for other in earlier if other[3] == door]
    return others != [] and others != [(goal, start)]


def is_crossed(rolls, at):
    """Whether a way leads to its own place, or has the direction of an earlier one out of it."""
    sort, row = rolls.rows[at]
    if sort != "way":
        return False
    start, direction, goal, _ = row
    return start == goal or (start, direction) in [(way[0], way[1]) for way in rolls.earlier(at, "way")]


def is_never(rolls, at):
    sort, row = rolls.rows[at]
    return any([gainsays(group) for group in condition_groups(sort, row)])


def gainsays(group):
    """Whether a condition stands beside its own not."""
    return any([(not negated, sort, one, other) in group for negated, sort, one, other in group])


FAULTS = {
    "twice": is_twice,
    "unknown": is_unknown,
    "alike": is_alike,
    "kind": is_unfit,
    "holder": is_misheld,
    "ring": is_ring,
    "door": is_misdoored,
    "way": is_crossed,
    "never": is_never,
}


def fault_of(rolls, at):
    """The first word, in their order, that is so of a row, or the empty text."""
    for what in FAULTS:
        is_so = FAULTS[what]
        if is_so(rolls, at):
            return what
    return ""
