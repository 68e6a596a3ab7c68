"""What holds what, where light is, and what you see and reach."""

from worldtale.state import WITH_YOU
from worldtale.world import HOLDER_TRAITS, need_name


def holder_chain(state, thing):
    """The holders of a thing, the nearest first."""
    found = []
    where = state.where(thing)
    while where[0] in HOLDER_TRAITS:
        found.append(where[1])
        where = state.where(where[1])
    return found


def is_within(state, thing, holder):
    """Whether a thing is this holder itself, or held by it."""
    return holder in [thing, *holder_chain(state, thing)]


def root_of(state, thing):
    """Where the outermost holder of a thing is, or it itself without any."""
    outermost = [thing, *holder_chain(state, thing)][-1]
    return state.where(outermost)


def shut_boxes(state, thing):
    """The shut boxes among the holders of a thing."""
    world = state.told_world()
    boxes = [holder for holder in holder_chain(state, thing) if world.has_trait(holder, "box")]
    return [box for box in boxes if not state.is_open(box)]


def is_hidden(state, thing):
    """Whether a thing is in a shut box that isn't clear, by however many steps."""
    world = state.told_world()
    return any([not world.has_trait(box, "clear") for box in shut_boxes(state, thing)])


def is_kept(state, thing):
    """Whether a thing is in a shut box, by however many steps."""
    return len(shut_boxes(state, thing)) > 0


def doors_at(state, place):
    """The doors by which a way goes from or to a place."""
    world = state.told_world()
    need_name(place, world.place_names())
    ways = world.told()[2]
    doors = [door for start, _, goal, door in ways if place in (start, goal)]
    return [thing for thing in world.thing_names() if thing in doors]


def is_lit(state, place):
    """Whether a place is lit, by itself or by a lit thing."""
    world = state.told_world()
    need_name(place, world.place_names())
    if (place, False) in world.told()[0]:
        return True
    return any([world.has_trait(thing, "lit") for thing in shown_things(state, place)])


def shown_things(state, place):
    """What is to be seen at a place while there is light."""
    roots = [("at", place)]
    if state.here() == place:
        roots.append(WITH_YOU)
    doors = doors_at(state, place)
    names = state.told_world().thing_names()
    return [thing for thing in names if thing in doors or is_rooted(state, thing, roots)]


def is_rooted(state, thing, roots):
    """Whether a thing that isn't hidden has one of these roots."""
    return root_of(state, thing) in roots and not is_hidden(state, thing)


def seen_things(state):
    """The things that you see."""
    if is_lit(state, state.here()):
        return shown_things(state, state.here())
    names = state.told_world().thing_names()
    return [thing for thing in names if is_rooted(state, thing, [WITH_YOU])]


def reached_things(state):
    """The things that you see and can reach."""
    return [thing for thing in seen_things(state) if not is_kept(state, thing)]
