"""Deeds by the books of rules: what they are about, what refuses them, and how they are done."""

from worldtale.books import do_effects, first_holding, fitting_order, holds_all
from worldtale.reach import is_kept, is_within, root_of, seen_things
from worldtale.saying import look_lines
from worldtale.state import WITH_YOU
from worldtale.world import HOLDER_TRAITS

REFUSALS = {
    "absent": "You see no such thing.",
    "held": "You have it.",
    "fixed": "It stays.",
    "far": "You can not reach it.",
    "unheld": "You do not hold it.",
    "worn": "You wear it.",
    "noholder": "Nothing goes there.",
    "closed": "It is shut.",
    "ring": "It can not hold itself.",
    "nolid": "It has no lid.",
    "opened": "It is open.",
    "nowear": "You can not wear it.",
    "unworn": "You do not wear it.",
    "noway": "No way there.",
}
DONE_LINES = {
    "take": "Taken.",
    "drop": "Dropped.",
    "put": "Done.",
    "open": "Opened.",
    "shut": "Shut.",
    "wear": "Worn.",
    "doff": "Doffed.",
    "wait": "Time goes by.",
}


def about_of(world, state, deed):
    """What a deed is about: its thing, which of wait is none, or of go a place."""
    verb, what, _, _ = deed
    return goal_of(world, state, what) if verb == "go" else what


def goal_of(world, state, direction):
    """The place that a way leads to from where you are, or the empty text."""
    goals = [way[2] for way in world.ways_out(state.here()) if way[1] == direction]
    return goals[0] if len(goals) > 0 else ""


def check_word(world, state, deed):
    """The first word by which a deed is refused, or the empty text."""
    verb, what, _, holder = deed
    if verb == "wait":
        return ""
    if verb == "go":
        return why_not_go(world, state, what)
    seen = seen_things(state)
    if what not in seen or (holder != "" and holder not in seen):
        return "absent"
    why_not = REASONS[verb]
    return first_so(why_not(world, state, deed))


def first_so(reasons):
    """The first word of which it is so, or the empty text."""
    for word, is_so in reasons:
        if is_so:
            return word
    return ""


def why_not_go(world, state, direction):
    for _, other, _, door in world.ways_out(state.here()):
        if other == direction:
            return "" if door == "" or state.is_open(door) else "closed"
    return "noway"


def why_not_take(world, state, deed):
    thing = deed[1]
    return [
        ("held", root_of(state, thing) == WITH_YOU),
        ("fixed", world.has_trait(thing, "fixed") or world.has_trait(thing, "door")),
        ("far", is_kept(state, thing)),
    ]


def why_not_drop(world, state, deed):
    thing = deed[1]
    return [("unheld", state.where(thing) != WITH_YOU), ("worn", state.is_worn(thing))]


def why_not_put(world, state, deed):
    _, thing, link, holder = deed
    return [
        *why_not_drop(world, state, deed),
        ("noholder", not world.has_trait(holder, HOLDER_TRAITS[link])),
        ("far", is_kept(state, holder)),
        ("closed", link == "in" and not state.is_open(holder)),
        ("ring", is_within(state, holder, thing)),
    ]


def why_not_open(world, state, deed):
    thing = deed[1]
    return [("nolid", not world.has_lid(thing)), ("far", is_kept(state, thing)), ("opened", state.is_open(thing))]


def why_not_shut(world, state, deed):
    thing = deed[1]
    return [("nolid", not world.has_lid(thing)), ("far", is_kept(state, thing)), ("closed", not state.is_open(thing))]


def why_not_wear(world, state, deed):
    return [("nowear", not world.has_trait(deed[1], "wear")), *why_not_drop(world, state, deed)]


def why_not_doff(world, state, deed):
    return [("unworn", not state.is_worn(deed[1]))]


REASONS = {
    "take": why_not_take,
    "drop": why_not_drop,
    "put": why_not_put,
    "open": why_not_open,
    "shut": why_not_shut,
    "wear": why_not_wear,
    "doff": why_not_doff,
}


def do_deed(world, state, deed):
    """Does a deed by the books: its lines, and whether it wasn't refused."""
    verb = deed[0]
    # What a deed is about is told from where you are ahead of it: behind a go its after rules are sought by that, too.
    about = about_of(world, state, deed)
    lines, stopped = do_before(world, state, verb, about)
    if stopped:
        return (lines, True)
    instead = do_first(world, state, "instead", verb, about)
    if instead is not None:
        return ([*lines, *instead], True)
    word = check_word(world, state, deed)
    if word != "":
        return ([*lines, REFUSALS[word]], False)
    do_plainly(world, state, deed)
    after = do_first(world, state, "after", verb, about)
    if after is None:
        after = own_lines(world, state, verb)
    return ([*lines, *after], True)


def do_before(world, state, verb, about):
    """Does the before rules that hold in their turn: their lines, and whether one stopped the deed."""
    lines = []
    for rule in fitting_order(world, "before", verb, about):
        if holds_all(world, state, rule[3]):
            told, stopped = do_effects(world, state, rule[4])
            lines.extend(told)
            if stopped:
                return (lines, True)
    return (lines, False)


def do_first(world, state, book, verb, about):
    """Does the first rule of a book that holds: its lines, or None where none does."""
    rule = first_holding(world, state, book, verb, about)
    if rule is None:
        return None
    lines, _ = do_effects(world, state, rule[4])
    return lines


def do_plainly(world, state, deed):
    """Does a deed that isn't refused, the books aside."""
    verb, what, link, holder = deed
    if verb == "take":
        state.move_thing(what, WITH_YOU)
    if verb == "drop":
        state.move_thing(what, ("at", state.here()))
    if verb == "put":
        state.move_thing(what, (link, holder))
    if verb in ("open", "shut"):
        state.set_open(what, verb == "open")
    if verb in ("wear", "doff"):
        state.set_worn(what, verb == "wear")
    if verb == "go":
        state.go_to(goal_of(world, state, what))


def own_lines(world, state, verb):
    """What a deed tells by itself."""
    return look_lines(world, state) if verb == "go" else [DONE_LINES[verb]]
