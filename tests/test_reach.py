"""Points 31 and 32: holders, roots, light, what is seen and reached; and of point 30 what moves along."""

import itertools
import unittest

from tests.samples import NOTHING_THERE, house, world_of
from worldtale import reach
from worldtale.errors import OutOfPlace
from worldtale.looking import look_through
from worldtale.reach import (
    doors_at, holder_chain, is_hidden, is_kept, is_lit, reached_things, root_of, seen_things,
)
from worldtale.state import State

OF_THINGS = (holder_chain, root_of, is_hidden, is_kept)
OF_PLACES = (is_lit, doors_at)
OF_STATES = (seen_things, reached_things)


def thing(name, where, *traits):
    return (name, name, (), where, traits)


def state_of(*things, dark=(), ways=(), places=("hall", "hut", "cellar")):
    """A state at the beginning of a world that the looker lets by."""
    made = world_of(places=[(name, name in dark) for name in places], things=list(things), ways=list(ways))
    look_through(made)
    return State(made)


def nest():
    """A coin in a pouch, in an open bag, in a shut clear case on a table at the hall; and some more."""
    return state_of(
        thing("coin", ("in", "pouch")),
        thing("pouch", ("in", "bag"), "box"),
        thing("bag", ("in", "case"), "box"),
        thing("case", ("on", "table"), "box", "clear", "shut"),
        thing("table", ("at", "hall"), "stand"),
        thing("sack", ("with",), "box", "shut"),
        thing("hat", ("in", "sack")),
        thing("ghost", ("nowhere",), "stand"),
        thing("sheet", ("on", "ghost")),
    )


class TestHolders(unittest.TestCase):
    def test_chains_the_nearest_first(self):
        state = nest()
        self.assertEqual(holder_chain(state, "coin"), ["pouch", "bag", "case", "table"])
        self.assertEqual(holder_chain(state, "pouch"), ["bag", "case", "table"])
        self.assertEqual(holder_chain(state, "case"), ["table"])
        self.assertEqual(holder_chain(state, "hat"), ["sack"])
        self.assertEqual(holder_chain(state, "sheet"), ["ghost"])
        for name in ("table", "sack", "ghost"):
            self.assertEqual(holder_chain(state, name), [])
        self.assertIs(type(holder_chain(state, "coin")), list)

    def test_the_longest_chain(self):
        names = "abcdefghijkl"
        things = [thing(name, ("in" if at else "on", names[at + 1]), "box") for at, name in enumerate(names[:-2])]
        things[0] = thing("a", ("in", "b"))
        state = state_of(*things, thing("k", ("on", "l"), "box"), thing("l", ("at", "hut"), "stand"))
        self.assertEqual(holder_chain(state, "a"), list("bcdefghijkl"))
        self.assertEqual(root_of(state, "a"), ("at", "hut"))
        self.assertFalse(is_kept(state, "a"))
        state.set_open("k", False)
        self.assertTrue(is_kept(state, "a"))
        self.assertFalse(is_kept(state, "k"))

    def test_roots(self):
        state = nest()
        for name in ("coin", "pouch", "bag", "case", "table"):
            self.assertEqual(root_of(state, name), ("at", "hall"))
        for name in ("sack", "hat"):
            self.assertEqual(root_of(state, name), ("with",))
        for name in ("ghost", "sheet"):
            self.assertEqual(root_of(state, name), ("nowhere",))
        self.assertEqual(root_of(State(house()), "gate"), ("nowhere",))

    def test_the_asker_s_own(self):
        state = nest()
        holder_chain(state, "coin").clear()
        self.assertEqual(holder_chain(state, "coin"), ["pouch", "bag", "case", "table"])

    def test_what_moves_takes_along(self):
        state = nest()
        other = state.copied()
        state.move_thing("bag", ("with",))
        for name in ("coin", "pouch", "bag"):
            self.assertEqual(root_of(state, name), ("with",))
            self.assertEqual(root_of(other, name), ("at", "hall"))
            self.assertFalse(is_kept(state, name))
            self.assertTrue(is_kept(other, name))
        self.assertEqual(holder_chain(state, "coin"), ["pouch", "bag"])
        self.assertEqual(root_of(state, "case"), ("at", "hall"))
        state.move_thing("table", ("nowhere",))
        self.assertEqual(root_of(state, "case"), ("nowhere",))
        other.move_thing("table", ("at", "hut"))
        self.assertEqual(root_of(other, "coin"), ("at", "hut"))
        self.assertEqual(root_of(state, "coin"), ("with",))


class TestKeptAndHidden(unittest.TestCase):
    def test_each_box_open_shut_and_clear(self):
        for clear, shut in itertools.product((False, True), repeat=2):
            traits = [word for word, so in (("box", True), ("clear", clear), ("shut", shut)) if so]
            state = state_of(thing("coin", ("in", "case")), thing("case", ("at", "hall"), *traits))
            self.assertIs(is_kept(state, "coin"), shut)
            self.assertIs(is_hidden(state, "coin"), shut and not clear)
            self.assertIs(is_kept(state, "case"), False)
            self.assertIs(is_hidden(state, "case"), False)
            state.set_open("case", shut)
            self.assertIs(is_kept(state, "coin"), not shut)

    def test_a_holder_in_a_shut_box(self):
        state = nest()
        for name in ("coin", "pouch", "bag"):
            self.assertIs(is_kept(state, name), True)
            self.assertIs(is_hidden(state, name), False)
        for name in ("case", "table"):
            self.assertIs(is_kept(state, name), False)
        state.set_open("pouch", False)
        self.assertIs(is_hidden(state, "coin"), True)
        self.assertIs(is_hidden(state, "pouch"), False)
        state.set_open("case", True)
        self.assertEqual((is_kept(state, "pouch"), is_kept(state, "coin")), (False, True))
        self.assertEqual((is_kept(state, "hat"), is_hidden(state, "hat")), (True, True))

    def test_a_box_that_is_not_clear_further_out_or_further_in(self):
        for inner, outer in (("clear", None), (None, "clear")):
            inside = [word for word in ("box", inner, "shut") if word]
            outside = [word for word in ("box", outer, "shut") if word]
            state = state_of(thing("coin", ("on", "tray")), thing("tray", ("in", "can"), "stand"),
                             thing("can", ("in", "case"), *inside), thing("case", ("with",), *outside))
            self.assertIs(is_hidden(state, "coin"), True)
            self.assertIs(is_hidden(state, "can"), outer is None)

    def test_stands_keep_nothing(self):
        state = state_of(thing("cup", ("on", "tray")), thing("tray", ("at", "hall"), "stand"))
        self.assertIs(is_kept(state, "cup"), False)
        self.assertIs(is_hidden(state, "cup"), False)


class TestDoors(unittest.TestCase):
    def doors(self):
        return state_of(
            thing("hatch", ("nowhere",), "door", "shut"),
            thing("rug", ("at", "hall")),
            thing("gate", ("nowhere",), "door"),
            ways=[("hall", "east", "hut", "gate"), ("hut", "west", "hall", "gate"), ("cellar", "up", "hall", "hatch"),
                  ("hall", "west", "cellar", "")],
        )

    def test_at_both_places_of_their_ways(self):
        state = self.doors()
        self.assertEqual(doors_at(state, "hall"), ["hatch", "gate"])
        self.assertEqual(doors_at(state, "hut"), ["gate"])
        self.assertEqual(doors_at(state, "cellar"), ["hatch"])
        self.assertEqual(doors_at(state_of(), "hall"), [])
        self.assertIs(type(doors_at(state, "hut")), list)

    def test_seen_and_reached_open_or_shut(self):
        state = self.doors()
        self.assertEqual(seen_things(state), ["hatch", "rug", "gate"])
        self.assertEqual(reached_things(state), ["hatch", "rug", "gate"])
        state.go_to("hut")
        state.set_open("gate", False)
        self.assertEqual(seen_things(state), ["gate"])
        self.assertEqual(reached_things(state), ["gate"])
        state.go_to("cellar")
        self.assertEqual(seen_things(state), ["hatch"])

    def test_not_seen_in_the_dark(self):
        way = ("hall", "up", "hut", "gate")
        state = state_of(thing("gate", ("nowhere",), "door"), dark=("hall",), ways=[way])
        self.assertEqual(doors_at(state, "hall"), ["gate"])
        self.assertEqual(seen_things(state), [])
        state.go_to("hut")
        self.assertEqual(seen_things(state), ["gate"])

    def test_a_lit_door_lights_both_places(self):
        way = ("hall", "up", "hut", "gate")
        state = state_of(thing("gate", ("nowhere",), "door", "lit", "shut"), dark=("hall", "hut", "cellar"), ways=[way])
        self.assertEqual([is_lit(state, place) for place in ("hall", "hut", "cellar")], [True, True, False])
        self.assertEqual(seen_things(state), ["gate"])
        state.go_to("cellar")
        self.assertEqual(seen_things(state), [])


class TestLight(unittest.TestCase):
    def test_places_that_are_not_told_dark(self):
        state = state_of(dark=("hut",))
        self.assertIs(is_lit(state, "hall"), True)
        self.assertIs(is_lit(state, "hut"), False)
        self.assertIs(is_lit(state, "cellar"), True)

    def test_a_lit_thing_with_its_root_there(self):
        for where in (("at", "hut"), ("on", "tray")):
            state = state_of(thing("lamp", where, "lit"), thing("tray", ("at", "hut"), "stand"), dark=("hut", "hall"))
            self.assertIs(is_lit(state, "hut"), True)
            self.assertIs(is_lit(state, "hall"), False)
            state.go_to("hut")
            self.assertEqual(seen_things(state), ["lamp", "tray"])
        self.assertIs(is_lit(state_of(thing("lamp", ("at", "hut")), dark=("hut",)), "hut"), False)
        self.assertIs(is_lit(state_of(thing("lamp", ("nowhere",), "lit"), dark=("hut",)), "hut"), False)

    def test_a_lit_thing_with_you_while_you_are_there(self):
        state = state_of(thing("lamp", ("with",), "lit"), dark=("hall", "hut"))
        self.assertEqual([is_lit(state, place) for place in ("hall", "hut")], [True, False])
        state.go_to("hut")
        self.assertEqual([is_lit(state, place) for place in ("hall", "hut")], [False, True])

    def test_lit_things_in_boxes(self):
        for clear, shut, root in itertools.product((False, True), (False, True), (("at", "hall"), ("with",))):
            traits = [word for word, so in (("box", True), ("clear", clear), ("shut", shut)) if so]
            state = state_of(thing("case", root, *traits), thing("lamp", ("in", "case"), "lit"), dark=("hall",))
            lit = clear or not shut
            self.assertIs(is_lit(state, "hall"), lit)
            seen = ["case", "lamp"] if lit else ["case"] if root == ("with",) else []
            self.assertEqual(seen_things(state), seen)
            self.assertEqual(reached_things(state), seen if not shut else seen[:1])

    def test_a_lit_box_around_what_is_hidden(self):
        state = state_of(thing("case", ("at", "hall"), "box", "lit", "shut"), thing("coin", ("in", "case")), dark=("hall",))
        self.assertIs(is_lit(state, "hall"), True)
        self.assertEqual(seen_things(state), ["case"])


class TestSeeing(unittest.TestCase):
    def test_in_the_light(self):
        state = nest()
        self.assertEqual(seen_things(state), ["coin", "pouch", "bag", "case", "table", "sack"])
        self.assertEqual(reached_things(state), ["case", "table", "sack"])
        state.set_open("case", True)
        self.assertEqual(reached_things(state), ["coin", "pouch", "bag", "case", "table", "sack"])
        state.go_to("hut")
        self.assertEqual(seen_things(state), ["sack"])
        state.set_open("sack", True)
        self.assertEqual(seen_things(state), ["sack", "hat"])

    def test_in_the_dark_what_is_with_you(self):
        state = state_of(
            thing("rug", ("at", "hall")),
            thing("cap", ("with",), "wear"),
            thing("can", ("with",), "box", "clear", "shut"),
            thing("pin", ("in", "can")),
            thing("purse", ("with",), "box", "shut"),
            thing("penny", ("in", "purse")),
            dark=("hall",),
        )
        self.assertEqual(seen_things(state), ["cap", "can", "pin", "purse"])
        self.assertEqual(reached_things(state), ["cap", "can", "purse"])
        state.set_worn("cap", True)
        state.set_open("purse", True)
        self.assertEqual(seen_things(state), ["cap", "can", "pin", "purse", "penny"])
        self.assertEqual(reached_things(state), ["cap", "can", "purse", "penny"])

    def test_what_is_elsewhere_or_nowhere(self):
        state = state_of(thing("rug", ("at", "hut")), thing("ghost", ("nowhere",)), thing("pin", ("at", "hall")))
        self.assertEqual(seen_things(state), ["pin"])
        state.go_to("hut")
        self.assertEqual(seen_things(state), ["rug"])
        state.go_to("cellar")
        self.assertEqual(seen_things(state), [])
        self.assertEqual(reached_things(state), [])

    def test_the_asker_s_own(self):
        state = nest()
        before = state.told()
        for question in OF_STATES:
            found = question(state)
            self.assertIs(type(found), list)
            kept = list(found)
            found.clear()
            self.assertEqual(question(state), kept)
        doors = State(house())
        doors_at(doors, "hall").append("lamp")
        self.assertEqual(doors_at(doors, "hall"), ["gate"])
        self.assertEqual(state.told(), before)

    def test_the_house(self):
        state = State(house())
        self.assertEqual(seen_things(state), ["lamp", "chest", "cap", "coin", "gate"])
        self.assertEqual(reached_things(state), ["lamp", "chest", "cap", "gate"])
        state.go_to("cellar")
        self.assertEqual(seen_things(state), ["cap"])
        state.move_thing("lamp", ("with",))
        self.assertEqual(seen_things(state), ["lamp", "table", "cap", "cup", "gate"])


class TestWhatIsNotThere(unittest.TestCase):
    def refused(self, state, question, name):
        with self.subTest(question=question.__name__, name=name):
            before = state.told()
            with self.assertRaises(OutOfPlace) as caught:
                question(state, name)
            self.assertIs(type(caught.exception), OutOfPlace)
            self.assertEqual(state.told(), before)

    def test_things(self):
        for state in (State(house()), state_of()):
            for question, name in itertools.product(OF_THINGS, (*NOTHING_THERE, "hall", "mood", "fog", "red")):
                self.refused(state, question, name)

    def test_places(self):
        for state in (State(house()), state_of(dark=("hall",))):
            for question, name in itertools.product(OF_PLACES, (*NOTHING_THERE, "lamp", "mood", "gate", "up")):
                self.refused(state, question, name)

    def test_each_function_is_in_its_file(self):
        for function in (*OF_THINGS, *OF_PLACES, *OF_STATES):
            self.assertEqual(function.__module__, "worldtale.reach")
            self.assertTrue(hasattr(reach, function.__name__))


if __name__ == "__main__":
    unittest.main()
