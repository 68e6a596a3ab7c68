"""What comes behind a turn, and at the beginning: happenings, scenes and ends."""

from worldtale.books import do_effects, holds_all
from worldtale.saying import look_lines


def clock_step(world, state, running):
    """What comes behind a turn: its lines, the scenes that run then, and the end that is come to."""
    state.next_turn()
    lines = do_everies(world, state)
    told, running_then, end = change_scenes(world, state, running)
    return ([*lines, *told], running_then, end)


def begin_step(world, state):
    """What comes at the beginning, likewise; the state stays."""
    told, running, end = change_scenes(world, state, [])
    return ([*look_lines(world, state), *told], running, end)


def do_everies(world, state):
    """Does the happenings whose time it is: their lines."""
    lines = []
    for number, conditions, effects in world.rows_of("every"):
        # Asked when it is come to: an earlier row may have changed what it asks.
        if state.turn() % number == 0 and holds_all(world, state, conditions):
            told, _ = do_effects(world, state, effects)
            lines.extend(told)
    return lines


def change_scenes(world, state, running):
    """Lets scenes end, then begin, then an end be come to: the lines, the scenes that run then, the end."""
    scenes = world.rows_of("scene")
    ended = [name for name, _, ends in scenes if name in running and holds_all(world, state, ends)]
    begun = [name for name, begins, _ in scenes if name not in running and holds_all(world, state, begins)]
    stayed = [name for name in running if name not in ended]
    running_then = [name for name, _, _ in scenes if name in stayed or name in begun]
    lines = [f"{name} ends." for name in ended]
    lines.extend([f"{name} begins." for name in begun])
    end = first_end(world, state)
    if end != "":
        lines.append(f"{end}.")
    return (lines, running_then, end)


def first_end(world, state):
    """The first end whose conditions hold, or the empty text."""
    for name, conditions in world.rows_of("end"):
        if holds_all(world, state, conditions):
            return name
    return ""
