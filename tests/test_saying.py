"""Points 70 to 72: how things are named, what looking and listing tell, and which is asked."""

import unittest

from tests.samples import house, looked, manor, shop
from worldtale import saying
from worldtale.saying import a_name, asked_text, hold_lines, joined_names, look_lines, the_name
from worldtale.state import State


def look(state):
    """What looking tells, which changes nothing."""
    before = state.told()
    found = look_lines(state.told_world(), state)
    assert type(found) is list and state.told() == before
    return found


def hold(state):
    """What listing tells, which changes nothing."""
    before = state.told()
    found = hold_lines(state.told_world(), state)
    assert type(found) is list and state.told() == before
    return found


class TestNames(unittest.TestCase):
    def test_adjectives_as_told_and_the_noun(self):
        made = house()
        for thing, name in (("lamp", "red lamp"), ("chest", "big old box"), ("table", "table"), ("gate", "iron door")):
            self.assertEqual(the_name(made, thing), f"the {name}")
        self.assertEqual(a_name(made, "lamp"), "a red lamp")
        self.assertEqual(a_name(made, "chest"), "a big old box")
        self.assertEqual(a_name(made, "table"), "a table")

    def test_an_ahead_of_each_of_five_letters(self):
        for noun in ("axe", "egg", "inn", "orb", "urn"):
            made = looked("place hall", f"thing x {noun} : at hall", f"thing y {noun} big : at hall",
                          f"thing z hat {noun} : at hall", f"thing w hat big {noun} : at hall")
            self.assertEqual(a_name(made, "x"), f"an {noun}")
            self.assertEqual(a_name(made, "y"), f"a big {noun}")
            self.assertEqual(a_name(made, "z"), f"an {noun} hat")
            self.assertEqual(a_name(made, "w"), f"a big {noun} hat")
            self.assertEqual(the_name(made, "x"), f"the {noun}")

    def test_a_ahead_of_all_other_letters(self):
        for letter in "bcdfghjklmnpqrstvwxyz":
            self.assertEqual(a_name(looked("place hall", f"thing it{letter} {letter}oo : at hall"), f"it{letter}"),
                             f"a {letter}oo")

    def test_names_joined(self):
        for names, text in (
            ([], ""),
            (["a lamp"], "a lamp"),
            (["a lamp", "a box"], "a lamp and a box"),
            (["a lamp", "an old box", "a coin"], "a lamp, an old box and a coin"),
            (["a", "b", "c", "d"], "a, b, c and d"),
        ):
            given = list(names)
            self.assertEqual(joined_names(given), text)
            self.assertEqual(given, names)

    def test_the_question(self):
        made = shop()
        self.assertEqual(asked_text(made, ["one", "two"]), "Which, the old red lamp or the green old lamp?")
        given = ["three", "chest", "tray"]
        self.assertEqual(asked_text(made, given), "Which, the red small lamp, the old box or the red tray?")
        self.assertEqual(given, ["three", "chest", "tray"])
        self.assertEqual(asked_text(made, ["one", "two", "gate", "pin"]),
                         "Which, the old red lamp, the green old lamp, the red door or the pin?")

    def test_each_function_is_in_its_file(self):
        for name in ("the_name", "a_name", "joined_names", "asked_text", "look_lines", "hold_lines"):
            self.assertEqual(getattr(saying, name).__module__, "worldtale.saying")


class TestLooking(unittest.TestCase):
    def test_all_rows(self):
        state = State(manor())
        self.assertEqual(look(state), [
            "hall.",
            "Ways: down, east (shut).",
            "Here: a red lamp, an old box, a glass box and an iron gate.",
            "In the glass box: a small coin.",
        ])

    def test_rows_without_anything_are_left_out(self):
        self.assertEqual(look(State(looked("place hall"))), ["hall."])
        self.assertEqual(look(State(looked("place hall", "place hut", "way hall up hut"))), ["hall.", "Ways: up."])
        self.assertEqual(look(State(looked("place hall", "thing egg egg : at hall"))), ["hall.", "Here: an egg."])
        state = State(looked("place hall", "place hut", "thing egg egg : at hall", "way hall up hut"))
        state.go_to("hut")
        self.assertEqual(look(state), ["hut."])

    def test_the_dark(self):
        state = State(house())
        state.go_to("cellar")
        self.assertEqual(look(state), ["It is dark."])
        state.move_thing("lamp", ("with",))
        self.assertEqual(look(state), ["cellar.", "Ways: up (shut).", "Here: a table and an iron door.", "On the table: a cup."])
        state.move_thing("lamp", ("in", "chest"))
        state.move_thing("chest", ("at", "cellar"))
        self.assertEqual(look(state), [
            "cellar.", "Ways: up (shut).", "Here: a big old box, a table and an iron door.",
            "In the big old box: a red lamp and a small coin.", "On the table: a cup.",
        ])

    def test_light_in_a_shut_box_that_is_not_clear(self):
        state = State(manor())
        state.move_thing("chest", ("at", "cellar"))
        state.go_to("cellar")
        self.assertEqual(look(state), ["It is dark."])
        state.set_open("chest", True)
        self.assertEqual(look(state), ["cellar.", "Ways: up.", "Here: an old box.", "In the old box: a green lamp."])

    def test_ways_rise_and_doors_are_told_from_both_sides(self):
        made = looked(
            "place hall", "place hut", "place den", "thing gate gate : nowhere door shut",
            "thing hatch hatch : nowhere door", "thing pin pin : at hall", "thing key key : at den",
            "way hall west hut", "way hall up hut by gate", "way hall down den", "way hall east hut", "way hall south den",
            "way hall north den by hatch", "way hut north hall by gate", "way den up hall by hatch",
        )
        state = State(made)
        self.assertEqual(look(state), ["hall.", "Ways: down, east, north, south, up (shut), west.",
                                       "Here: a pin, a gate and a hatch."])
        state.go_to("hut")
        self.assertEqual(look(state), ["hut.", "Ways: north (shut).", "Here: a gate."])
        state.go_to("den")
        self.assertEqual(look(state), ["den.", "Ways: up.", "Here: a key and a hatch."])
        state.set_open("hatch", False)
        self.assertEqual(look(state)[1], "Ways: up (shut).")
        state.set_open("gate", True)
        state.go_to("hall")
        self.assertEqual(look(state)[1], "Ways: down, east, north (shut), south, up, west.")

    def test_a_door_by_which_a_way_leads_here_alone(self):
        made = looked("place hall", "place hut", "thing gate gate : nowhere door", "way hall up hut by gate")
        state = State(made)
        state.go_to("hut")
        self.assertEqual(look(state), ["hut.", "Here: a gate."])

    def test_things_in_their_order_and_the_doors_last(self):
        made = looked("place hall", "place hut", "thing gate gate : nowhere door", "thing cup cup : at hall",
                      "thing pin pin : nowhere", "thing axe axe : at hall", "way hall up hut by gate")
        state = State(made)
        state.move_thing("pin", ("at", "hall"))
        self.assertEqual(look(state)[2], "Here: a cup, a pin, an axe and a gate.")

    def test_what_is_in_and_on_what_you_see(self):
        made = looked(
            "place hall", "thing coin coin : in purse", "thing purse purse : in sack box", "thing egg egg : in sack",
            "thing sack sack : with you box", "thing tray tray old : at hall stand", "thing cup cup : on tray",
            "thing jar jar : on tray box shut", "thing bean bean : in jar", "thing vase vase : in jar",
            "thing glass glass : at hall box clear shut", "thing fly fly : in glass",
        )
        state = State(made)
        self.assertEqual(look(state), [
            "hall.", "Here: an old tray and a glass.", "In the purse: a coin.", "In the sack: a purse and an egg.",
            "On the old tray: a cup and a jar.", "In the glass: a fly.",
        ])
        state.set_open("jar", True)
        state.set_open("purse", False)
        self.assertEqual(look(state)[2:], [
            "In the sack: a purse and an egg.", "On the old tray: a cup and a jar.", "In the jar: a bean and a vase.",
            "In the glass: a fly.",
        ])
        state.set_open("sack", False)
        self.assertEqual(look(state)[2:4], ["On the old tray: a cup and a jar.", "In the jar: a bean and a vase."])

    def test_what_is_elsewhere_is_not_told(self):
        state = State(manor())
        state.set_open("gate", True)
        state.go_to("garden")
        self.assertEqual(look(state), ["garden.", "Ways: west.", "Here: an oak table, an old iron statue and an iron gate.",
                                       "On the oak table: a cup."])

    def test_the_asker_s_own(self):
        state = State(manor())
        look(state).clear()
        self.assertEqual(look(state)[0], "hall.")


class TestHolding(unittest.TestCase):
    def test_holding_and_wearing(self):
        state = State(manor())
        self.assertEqual(hold(state), ["You hold a cap and a bag."])
        state.set_worn("cap", True)
        self.assertEqual(hold(state), ["You hold a bag.", "You wear a cap."])
        state.move_thing("lamp", ("with",))
        self.assertEqual(hold(state), ["You hold a red lamp and a bag.", "You wear a cap."])
        state.set_worn("bag", True)
        state.move_thing("lamp", ("in", "bag"))
        self.assertEqual(hold(state), ["You wear a cap and a bag."])

    def test_nothing(self):
        state = State(manor())
        for thing in ("cap", "bag"):
            state.move_thing(thing, ("nowhere",))
        self.assertEqual(hold(state), ["You have nothing."])
        state.go_to("cellar")
        self.assertEqual(hold(state), ["You have nothing."])

    def test_what_a_held_box_holds_is_not_with_you_itself(self):
        state = State(manor())
        state.move_thing("cap", ("in", "bag"))
        self.assertEqual(hold(state), ["You hold a bag."])

    def test_it_is_told_in_the_dark(self):
        state = State(manor())
        state.go_to("cellar")
        self.assertEqual(hold(state), ["You hold a cap and a bag."])

    def test_the_asker_s_own(self):
        state = State(manor())
        hold(state).clear()
        self.assertEqual(hold(state), ["You hold a cap and a bag."])


if __name__ == "__main__":
    unittest.main()
