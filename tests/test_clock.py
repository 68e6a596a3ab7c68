"""Points 81 and 82: what comes behind a turn, in its order, and at the beginning."""

import unittest

from tests.samples import looked, manor
from worldtale import clock
from worldtale.clock import begin_step, clock_step
from worldtale.saying import look_lines
from worldtale.state import State


def play_of(*rows):
    return State(looked("place hall", "place hut dark", "thing pin pin : at hall", "thing cup cup : at hut", *rows))


class Stepping(unittest.TestCase):
    def step(self, state, running=()):
        """What comes behind a turn; the scenes handed in stay, and the turn is the next one."""
        turn, given = state.turn(), list(running)
        found = clock_step(state.told_world(), state, given)
        self.assertEqual(given, list(running))
        self.assertEqual(state.turn(), turn + 1)
        self.check(found)
        return found

    def begin(self, state):
        before = state.told()
        found = begin_step(state.told_world(), state)
        self.assertEqual(state.told(), before)
        self.check(found)
        return found

    def check(self, found):
        self.assertIs(type(found), tuple)
        self.assertEqual([type(part) for part in found], [list, list, str])


class TestEveries(Stepping):
    def test_a_turn_alone(self):
        state = play_of()
        for turn in range(1, 4):
            self.assertEqual(self.step(state), ([], [], ""))
            self.assertEqual(state.turn(), turn)
        self.assertEqual(state.told(), ("hall", 3, (("at", "hall"), ("at", "hut")), (), (), ()))

    def test_each_number(self):
        for number in range(1, 5):
            state = play_of(f"every {number} : always : say ding")
            found = [self.step(state)[0] for _ in range(13)]
            self.assertEqual(found, [["ding"] if turn % number == 0 else [] for turn in range(1, 14)], number)

    def test_effects(self):
        state = play_of("state luck 0", "every 2 : pin at hall : say tick and move pin at hut and set luck 4 and say tock")
        self.step(state)
        self.assertEqual((state.where("pin"), state.number_of("luck")), (("at", "hall"), 0))
        self.assertEqual(self.step(state)[0], ["tick", "tock"])
        self.assertEqual((state.where("pin"), state.number_of("luck")), (("at", "hut"), 4))
        self.step(state)
        self.assertEqual(self.step(state)[0], [])

    def test_by_rows_and_each_when_it_is_come_to(self):
        state = play_of("state luck 0", "every 1 : luck is 0 : say one and set luck 1", "every 1 : luck is 1 : say two")
        self.assertEqual(self.step(state)[0], ["one", "two"])
        self.assertEqual(self.step(state)[0], ["two"])
        state = play_of("state luck 0", "every 2 : luck is 1 : say two", "every 1 : luck is 0 : say one and set luck 1")
        self.assertEqual(self.step(state)[0], ["one"])
        self.assertEqual(self.step(state)[0], ["two"])
        state = play_of("state luck 0", "every 1 : always : set luck 1", "every 1 : luck is 0 : say never")
        self.assertEqual(self.step(state)[0], [])


class TestScenes(Stepping):
    def test_begin_run_and_end(self):
        state = play_of("state luck 0", "scene fog : luck is 1 : luck is 3")
        self.assertEqual(self.step(state), ([], [], ""))
        state.set_number("luck", 1)
        self.assertEqual(self.step(state), (["fog begins."], ["fog"], ""))
        self.assertEqual(self.step(state, ["fog"]), ([], ["fog"], ""))
        state.set_number("luck", 2)
        self.assertEqual(self.step(state, ["fog"]), ([], ["fog"], ""))
        state.set_number("luck", 3)
        self.assertEqual(self.step(state, ["fog"]), (["fog ends."], [], ""))
        self.assertEqual(self.step(state), ([], [], ""))

    def test_one_that_ends_does_not_begin_in_the_same_step(self):
        state = play_of("scene fog : pin at hall : cup at hut")
        self.assertEqual(self.step(state, ["fog"]), (["fog ends."], [], ""))
        self.assertEqual(self.step(state), (["fog begins."], ["fog"], ""))
        state = play_of("scene fog : always : always")
        self.assertEqual(self.step(state), (["fog begins."], ["fog"], ""))
        self.assertEqual(self.step(state, ["fog"]), (["fog ends."], [], ""))

    def test_ends_ahead_of_beginnings_each_by_rows(self):
        rows = ("scene a : always : always", "scene b : always : always", "scene c : always : always",
                "scene d : always : always")
        self.assertEqual(self.step(play_of(*rows), ["b", "d"]),
                         (["b ends.", "d ends.", "a begins.", "c begins."], ["a", "c"], ""))
        self.assertEqual(self.step(play_of(*rows), ["a", "b", "c", "d"])[1], [])
        self.assertEqual(self.step(play_of(*rows))[1], ["a", "b", "c", "d"])

    def test_those_that_run_stand_by_rows(self):
        rows = ("scene a : pin at hall : pin nowhere", "scene b : pin at hut : pin nowhere", "scene c : pin at hall : pin nowhere")
        self.assertEqual(self.step(play_of(*rows), ["b"]), (["a begins.", "c begins."], ["a", "b", "c"], ""))

    def test_conditions_as_it_is_behind_the_every_rows(self):
        rows = ("state luck 0", "every 1 : always : set luck 1 and say ding", "scene a : luck is 1 : luck is 0",
                "scene b : luck is 0 : luck is 1")
        self.assertEqual(self.step(play_of(*rows)), (["ding", "a begins."], ["a"], ""))
        self.assertEqual(self.step(play_of(*rows), ["b"]), (["ding", "b ends.", "a begins."], ["a"], ""))
        self.assertEqual(self.step(play_of(*rows), ["a"]), (["ding"], ["a"], ""))


class TestEnds(Stepping):
    def test_the_first_by_rows(self):
        rows = ("state luck 0", "end a : luck is 2", "end b : luck is 1", "end c : not luck is 0")
        state = play_of(*rows)
        self.assertEqual(self.step(state), ([], [], ""))
        state.set_number("luck", 1)
        self.assertEqual(self.step(state), (["b."], [], "b"))
        state.set_number("luck", 2)
        self.assertEqual(self.step(state), (["a."], [], "a"))
        state.set_number("luck", 3)
        self.assertEqual(self.step(state), (["c."], [], "c"))

    def test_behind_all_else(self):
        state = play_of("state luck 0", "every 1 : always : say ding and set luck 1", "scene fog : luck is 1 : luck is 0",
                        "scene gale : always : luck is 1", "end done : luck is 1")
        self.assertEqual(self.step(state, ["gale"]), (["ding", "gale ends.", "fog begins.", "done."], ["fog"], "done"))


class TestTheBeginning(Stepping):
    def test_looking_alone(self):
        state = State(manor())
        self.assertEqual(self.begin(state), (look_lines(state.told_world(), state), [], ""))

    def test_scenes_and_an_end_without_a_turn(self):
        state = play_of("state luck 0", "every 1 : always : say never and set luck 1", "scene b : luck is 1 : always",
                        "scene a : luck is 0 : always", "scene c : always : always", "end x : luck is 1",
                        "end y : pin at hall", "end z : always")
        self.assertEqual(self.begin(state), (["hall.", "Here: a pin.", "a begins.", "c begins.", "y."], ["a", "c"], "y"))
        self.assertEqual(state.turn(), 0)

    def test_in_the_dark(self):
        state = State(looked("place den dark", "scene fog : always : always"))
        self.assertEqual(self.begin(state), (["It is dark.", "fog begins."], ["fog"], ""))

    def test_the_asker_s_own(self):
        state = play_of("scene fog : always : pin nowhere")
        for part in self.begin(state)[:2]:
            part.clear()
        self.assertEqual(self.begin(state)[1], ["fog"])

    def test_each_function_is_in_its_file(self):
        for name in ("clock_step", "begin_step"):
            self.assertEqual(getattr(clock, name).__module__, "worldtale.clock")


if __name__ == "__main__":
    unittest.main()
