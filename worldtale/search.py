"""Searches through the moments that a world can come to."""

from worldtale.clock import begin_step, clock_step
from worldtale.deeds import do_deed
from worldtale.errors import TooGreat
from worldtale.state import State
from worldtale.words import DIRECTIONS
from worldtale.world import need_name

MOST_MOMENTS = 100


class Stand:
    """A moment of a search, and the deeds by which it is come to."""

    def __init__(self, state, running, end, way):
        self.state = state
        self.running = running
        self.end = end
        self.way = way

    def told(self, span):
        """What makes it one with other moments, where every row comes back after this many turns."""
        here, turns, *rest = self.state.told()
        return ((here, *rest), tuple(self.running), turns % span, self.end)


class Search:
    """All moments come to so far, and those that were come to by the last step."""

    def __init__(self, world):
        state = State(world)
        _, running, end = begin_step(world, state)
        first = Stand(state, running, end, [])
        self._world = world
        self._deeds = all_deeds(world)
        self._span = turn_span(world)
        self._found = {first.told(self._span): True}
        self.last = [first]

    def found(self):
        """All moments as tuples, in the order of their shortest ways."""
        return list(self._found)

    def go_on(self):
        """Goes one step on from each of the last moments; TooGreat where they become too many."""
        reached = []
        for stand in self.last:
            for deed in self._deeds:
                following = step_from(self._world, stand, deed)
                if following is not None and self._is_new(following):
                    reached.append(following)
        self.last = reached

    def _is_new(self, stand):
        """Whether a moment wasn't come to yet; it is now."""
        told = stand.told(self._span)
        if told in self._found:
            return False
        self._found[told] = True
        if len(self._found) > MOST_MOMENTS:
            raise TooGreat("more moments than are gone through")
        return True


def all_deeds(world):
    """All deeds, in the order in which they are tried."""
    things = world.thing_names()
    deeds = [(verb, thing, "", "") for verb in ("take", "drop") for thing in things]
    deeds.extend([("put", thing, link, holder) for link in ("in", "on") for thing in things for holder in things])
    deeds.extend([(verb, thing, "", "") for verb in ("open", "shut", "wear", "doff") for thing in things])
    deeds.extend([("go", direction, "", "") for direction in DIRECTIONS])
    return [*deeds, ("wait", "", "", "")]


def turn_span(world):
    """The least number that the numbers of all every rows divide."""
    numbers = [number for number, _, _ in world.rows_of("every")]
    span = 1
    while any([span % number != 0 for number in numbers]):
        span += 1
    return span


def step_from(world, stand, deed):
    """The moment behind a deed, or None where it is no step."""
    if stand.end != "":
        return None
    state = stand.state.copied()
    _, done = do_deed(world, state, deed)
    if not done:
        return None
    _, running, end = clock_step(world, state, stand.running)
    return Stand(state, running, end, [*stand.way, deed])


def closed_moments(world):
    """All moments that can be come to; TooGreat where they are too many."""
    search = Search(world)
    while len(search.last) > 0:
        search.go_on()
    return search.found()


def way_to(world, end, most):
    """The deeds of a shortest way to an end, or None where there is none of at most so many steps."""
    need_name(end, [name for name, _ in world.rows_of("end")])
    search = Search(world)
    steps = 0
    way = way_found(search, end)
    while way is None and steps < most:
        search.go_on()
        steps += 1
        way = way_found(search, end)
    return way


def way_found(search, end):
    """The way to the first of the last moments that has this end, or None."""
    for stand in search.last:
        if stand.end == end:
            return list(stand.way)
    return None
