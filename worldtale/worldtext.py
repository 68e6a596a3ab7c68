"""Writes a world as text, row by row."""

from worldtale.world import SORTS


def world_text(world):
    """The text of a world, line ends between its rows."""
    rows = []
    for sort, told in zip(SORTS, world.told()):
        write = WRITERS[sort]
        for row in told:
            rows.append(write(row))
    return "\n".join(rows)


def place_row(row):
    name, dark = row
    return f"place {name} dark" if dark else f"place {name}"


def thing_row(row):
    name, noun, adjectives, where, traits = row
    return " ".join(["thing", name, noun, *adjectives, ":", where_words(where), *traits])


def way_row(row):
    start, direction, goal, door = row
    text = f"way {start} {direction} {goal}"
    return text if door == "" else f"{text} by {door}"


def state_row(row):
    name, number = row
    return f"state {name} {number}"


def rule_row(row):
    book, verb, about, conditions, effects = row
    aim = "any" if about == "" else about
    return f"rule {book} {verb} {aim} : {conditions_words(conditions)} : {effects_words(effects)}"


def every_row(row):
    number, conditions, effects = row
    return f"every {number} : {conditions_words(conditions)} : {effects_words(effects)}"


def scene_row(row):
    name, begins, ends = row
    return f"scene {name} : {conditions_words(begins)} : {conditions_words(ends)}"


def end_row(row):
    name, conditions = row
    return f"end {name} : {conditions_words(conditions)}"


WRITERS = {
    "place": place_row,
    "thing": thing_row,
    "way": way_row,
    "state": state_row,
    "rule": rule_row,
    "every": every_row,
    "scene": scene_row,
    "end": end_row,
}


def where_words(where):
    if where[0] == "with":
        return "with you"
    return " ".join(where)


def conditions_words(conditions):
    if len(conditions) == 0:
        return "always"
    return " and ".join([condition_words(condition) for condition in conditions])


def condition_words(condition):
    negated, sort, one, other = condition
    return f"not {plain_words(sort, one, other)}" if negated else plain_words(sort, one, other)


def plain_words(sort, one, other):
    if sort == "you":
        return f"you at {one}"
    if sort == "with":
        return f"{one} with you"
    if other == "":
        return f"{one} {sort}"
    return f"{one} {sort} {other}"


def effects_words(effects):
    return " and ".join([effect_words(effect) for effect in effects])


def effect_words(effect):
    if effect[0] == "set":
        return f"set {effect[1]} {effect[2]}"
    if effect[0] == "move":
        return f"move {effect[1]} {where_words(effect[2])}"
    return " ".join(effect)
