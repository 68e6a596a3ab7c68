"""A play of a world: how it answers lines, and how turns are taken back."""

from worldtale.asking import Talk
from worldtale.clock import begin_step, clock_step
from worldtale.deeds import REFUSALS, do_deed
from worldtale.saying import asked_text, hold_lines, look_lines
from worldtale.state import State

PRONOUN_LINES = {"it": "What is it?", "them": "What are they?"}


class Moment:
    """What a play stands at: the state, the scenes that run, the end or "", and what it and them mean."""

    def __init__(self, state, running, end, it, them):
        self.state = state
        self.running = tuple(running)
        self.end = end
        self.it = it
        self.them = tuple(them)


class Play:
    """A world that is played, with all its turns that can be taken back."""

    def __init__(self, world):
        self._world = world
        self._talk = Talk(world)
        self._state = State(world)
        _, self._running, self._end = begin_step(world, self._state)
        self._ahead = []

    def say(self, line):
        """Answers a line of anything, clause by clause."""
        lines = []
        self._talk.begin(line)
        moment = self._moment_now()
        meant = self._talk.mean(self._state)
        while meant is not None:
            lines.extend(self._answer(meant, moment))
            moment = self._moment_now()
            meant = self._talk.mean(self._state)
        return lines

    def opening(self):
        """What is told at the beginning."""
        lines, _, _ = begin_step(self._world, State(self._world))
        return lines

    def turn_number(self):
        """How many turns were."""
        return self._state.turn()

    def state_now(self):
        """A copy of the state."""
        return self._state.copied()

    def scenes_now(self):
        """The scenes that run, by rows."""
        return list(self._running)

    def ended_by(self):
        """The end that was come to, or None."""
        return None if self._end == "" else self._end

    def undo_count(self):
        """How many turns can be taken back."""
        return len(self._ahead)

    def moments_kept(self):
        """The moment as it is, then those ahead of the turns, the last turn's first; a question is let go."""
        self._talk.let_go()
        return [self._moment_now(), *self._ahead[::-1]]

    def stand_at(self, moments):
        """Stands as moments tell that were kept."""
        self._ahead = list(reversed(moments[1:]))
        self._go_back_to(moments[0])

    def _moment_now(self):
        it, them, _ = self._talk.told()
        return Moment(self._state.copied(), self._running, self._end, it, them)

    def _go_back_to(self, moment):
        self._state = moment.state.copied()
        self._running = list(moment.running)
        self._end = moment.end
        self._talk.put_back(moment.it, list(moment.them))

    def _answer(self, meant, moment):
        """Answers one clause; the moment is the one ahead of it."""
        if is_undo(meant):
            return [self._undo()]
        if self._end != "":
            self._talk.let_go()
            self._talk.put_back(moment.it, list(moment.them))
            return ["It is over."]
        if meant[0] != "do":
            return [unmeant_line(self._world, meant)]
        return self._do_deeds(meant[1], moment)

    def _undo(self):
        """Takes the last turn back, if there is one."""
        if len(self._ahead) == 0:
            return "Nothing to undo."
        self._go_back_to(self._ahead.pop())
        return "Undone."

    def _do_deeds(self, deeds, moment):
        """Does the deeds of a clause, which are a turn if one of them wasn't refused."""
        lines = []
        is_turn = False
        for deed in deeds:
            if deed[0] == "look":
                lines.extend(look_lines(self._world, self._state))
            elif deed[0] == "list":
                lines.extend(hold_lines(self._world, self._state))
            else:
                told, done = self._do_deed(deed)
                lines.extend(told)
                is_turn = is_turn or done
        if is_turn:
            self._ahead.append(moment)
            lines.extend(self._end_turn())
        return lines

    def _do_deed(self, deed):
        """Does a deed, which changes nothing where it is refused."""
        state = self._state.copied()
        lines, done = do_deed(self._world, state, deed)
        if done:
            self._state = state
        return (lines, done)

    def _end_turn(self):
        lines, self._running, self._end = clock_step(self._world, self._state, self._running)
        if self._end != "":
            self._talk.let_go()
        return lines


def is_undo(meant):
    return meant[0] == "do" and [deed[0] for deed in meant[1]] == ["undo"]


def unmeant_line(world, meant):
    """What is told of a clause that isn't meant by deeds."""
    kind = meant[0]
    if kind == "which":
        return asked_text(world, meant[1])
    if kind == "unknown":
        return f"I do not know {meant[1]}."
    if kind == "what":
        return PRONOUN_LINES[meant[1]]
    if kind == "absent":
        return REFUSALS["absent"]
    return "Nothing there." if kind == "nothing" else "What?"
