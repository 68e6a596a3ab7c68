"""Reads a world from text, row by row; whether names are there isn't looked at."""

from worldtale.cursor import Cursor
from worldtale.errors import BadRow
from worldtale.words import DIRECTIONS, is_word, words_of
from worldtale.world import SORTS, World

MOST_ROWS = {"place": 8, "thing": 12, "way": 16, "state": 6, "rule": 16, "every": 2, "scene": 4, "end": 4}
TRAITS = ("box", "clear", "door", "fixed", "lit", "shut", "stand", "wear")
BOOKS = ("before", "instead", "after")
RULE_VERBS = ("take", "drop", "put", "open", "shut", "wear", "doff", "go", "wait")
WHERE_WORDS = ("at", "in", "on", "with", "nowhere")
CONDITION_WORDS = ("is", "at", "in", "on", "with", "nowhere", "open", "worn")
EFFECT_WORDS = ("say", "set", "move")
MOST_ADJECTIVES = 2
MOST_JOINED = 4
MOST_SAID = 6
MOST_EVERY = 4


def read_world(text):
    """The World that a text tells; BadRow of the first row that can't stand."""
    if not isinstance(text, str):
        raise BadRow(1, 0)
    lists = [[] for _ in SORTS]
    rows = text.split("\n")
    for at, row in enumerate(rows):
        read_row(lists, at + 1, row)
    if len(lists[0]) == 0:
        raise BadRow(len(rows) + 1, 0)
    return World(*lists)


def read_row(lists, number, row):
    """Reads a row, and puts it behind those of its sort."""
    words = words_of(row)
    if words is None:
        raise BadRow(number, 0)
    cursor = Cursor(number, words)
    sort = cursor.take_one_of(SORTS)
    at = SORTS.index(sort)
    comes_late = any([len(later) > 0 for later in lists[at + 1:]])
    if comes_late or len(lists[at]) >= MOST_ROWS[sort]:
        cursor.refuse_row()
    read = READERS[sort]
    told = read(cursor)
    cursor.finish()
    lists[at].append(told)


def read_place(cursor):
    name = cursor.take_name()
    return (name, cursor.skip("dark"))


def read_thing(cursor):
    name = cursor.take_name()
    noun = cursor.take_name()
    adjectives = read_adjectives(cursor)
    cursor.take_word(":")
    where = read_where(cursor)
    return (name, noun, adjectives, where, read_traits(cursor))


def read_adjectives(cursor):
    found = []
    while len(found) < MOST_ADJECTIVES and cursor.peek() not in (":", *found):
        found.append(cursor.take_name())
    return tuple(found)


def read_traits(cursor):
    found = []
    while cursor.peek() in TRAITS and (len(found) == 0 or found[-1] < cursor.peek()):
        found.append(cursor.take_next())
    return tuple(found)


def read_where(cursor):
    link = cursor.take_one_of(WHERE_WORDS)
    if link == "with":
        cursor.take_word("you")
        return (link,)
    if link == "nowhere":
        return (link,)
    return (link, cursor.take_name())


def read_way(cursor):
    start = cursor.take_name()
    direction = cursor.take_one_of(DIRECTIONS)
    goal = cursor.take_name()
    door = cursor.take_name() if cursor.skip("by") else ""
    return (start, direction, goal, door)


def read_state(cursor):
    name = cursor.take_name()
    return (name, cursor.take_figure(0, 9))


def read_rule(cursor):
    book = cursor.take_one_of(BOOKS)
    verb = cursor.take_one_of(RULE_VERBS)
    about = "" if cursor.skip("any") else cursor.take_name()
    cursor.take_word(":")
    conditions = read_conditions(cursor)
    cursor.take_word(":")
    return (book, verb, about, conditions, read_effects(cursor, book == "before"))


def read_every(cursor):
    number = cursor.take_figure(1, MOST_EVERY)
    cursor.take_word(":")
    conditions = read_conditions(cursor)
    cursor.take_word(":")
    return (number, conditions, read_effects(cursor, False))


def read_scene(cursor):
    name = cursor.take_name()
    cursor.take_word(":")
    begins = read_conditions(cursor)
    cursor.take_word(":")
    return (name, begins, read_conditions(cursor))


def read_end(cursor):
    name = cursor.take_name()
    cursor.take_word(":")
    return (name, read_conditions(cursor))


READERS = {
    "place": read_place,
    "thing": read_thing,
    "way": read_way,
    "state": read_state,
    "rule": read_rule,
    "every": read_every,
    "scene": read_scene,
    "end": read_end,
}


def read_conditions(cursor):
    if cursor.skip("always"):
        return ()
    found = [read_condition(cursor)]
    while len(found) < MOST_JOINED and cursor.skip("and"):
        found.append(read_condition(cursor))
    return tuple(found)


def read_condition(cursor):
    negated = cursor.skip("not")
    if cursor.skip("you"):
        cursor.take_word("at")
        return (negated, "you", cursor.take_name(), "")
    one = cursor.take_name()
    sort = cursor.take_one_of(CONDITION_WORDS)
    return (negated, sort, one, read_other(cursor, sort))


def read_other(cursor, sort):
    """What stands behind the word that tells a condition's sort."""
    if sort == "is":
        return cursor.take_figure(0, 9)
    if sort in ("at", "in", "on"):
        return cursor.take_name()
    if sort == "with":
        cursor.take_word("you")
    return ""


def read_effects(cursor, may_stop):
    found = [read_effect(cursor, may_stop)]
    while len(found) < MOST_JOINED and cursor.skip("and"):
        found.append(read_effect(cursor, may_stop))
    return tuple(found)


def read_effect(cursor, may_stop):
    if may_stop and cursor.skip("stop"):
        return ("stop",)
    sort = cursor.take_one_of(EFFECT_WORDS)
    if sort == "say":
        return ("say", read_said(cursor))
    if sort == "set":
        name = cursor.take_name()
        return ("set", name, cursor.take_figure(0, 9))
    thing = cursor.take_name()
    return ("move", thing, read_where(cursor))


def read_said(cursor):
    """The words behind say, as many as stand there: only "and" ends them."""
    found = []
    while len(found) < MOST_SAID and is_said(cursor.peek()):
        found.append(cursor.take_next())
    if len(found) == 0:
        cursor.refuse()
    return " ".join(found)


def is_said(word):
    return is_word(word) and word != "and"
