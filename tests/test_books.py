"""Points 60 and 61: conditions, effects, and the rules of a book that fit."""

import itertools
import unittest

from tests.samples import world_of
from worldtale.books import do_effects, first_holding, fitting_order, holds_all, holds_now
from worldtale.looking import look_through
from worldtale.state import State
from worldtale.worldread import read_world

KITCHEN_TEXT = "\n".join((
    "place hall",
    "place hut",
    "thing lamp lamp : at hall lit",
    "thing chest box : at hall box",
    "thing bag bag : in chest box",
    "thing coin coin : in bag",
    "thing tray tray : on shelf stand",
    "thing shelf shelf : at hut stand",
    "thing cap cap : with you wear",
    "thing ghost ghost : nowhere",
    "thing gate door : nowhere door shut",
    "way hall up hut by gate",
    "way hut down hall by gate",
    "state mood 3",
    "state luck 0",
    "rule before take any : always : say a",
    "rule before take lamp : always : say b",
    "rule before take any : mood is 3 : say c",
    "rule before take lamp : mood is 3 and luck is 0 : say d",
    "rule before take coin : mood is 3 : say e",
    "rule before take lamp : mood is 4 and luck is 0 : say f",
    "rule before take any : mood is 3 and luck is 1 and lamp at hall : say g",
    "rule after take lamp : always : say h",
    "rule before drop lamp : always : say i",
    "rule instead go hut : gate open : say j",
    "rule instead go any : always : say k",
    "rule instead wait any : luck is 1 : say l",
    "rule instead wait any : mood is 3 and luck is 0 : say m",
    "rule after go hall : always : say n",
))


def kitchen():
    made = read_world(KITCHEN_TEXT)
    look_through(made)
    return made


class TestHoldsNow(unittest.TestCase):
    def setUp(self):
        self.world = kitchen()
        self.state = State(self.world)

    def holds(self, *condition):
        """Whether a condition holds, its own not never being of the same mind."""
        before = self.state.told()
        found = holds_now(self.world, self.state, (False, *condition))
        self.assertIs(type(found), bool)
        self.assertIs(holds_now(self.world, self.state, (True, *condition)), not found)
        self.assertEqual(self.state.told(), before)
        return found

    def test_numbers(self):
        for number in range(10):
            self.assertIs(self.holds("is", "mood", number), number == 3)
            self.assertIs(self.holds("is", "luck", number), number == 0)
        self.state.set_number("mood", 9)
        self.assertTrue(self.holds("is", "mood", 9))

    def test_where_a_thing_is_itself(self):
        so = {("lamp", "at", "hall"), ("chest", "at", "hall"), ("bag", "in", "chest"), ("coin", "in", "bag"),
              ("tray", "on", "shelf"), ("shelf", "at", "hut")}
        names = ("lamp", "chest", "bag", "coin", "tray", "shelf", "cap", "ghost")
        for thing, sort in itertools.product(names, ("at", "in", "on")):
            for other in ("hall", "hut") if sort == "at" else names:
                self.assertIs(self.holds(sort, thing, other), (thing, sort, other) in so)
            self.assertIs(self.holds("with", thing, ""), thing == "cap")
            self.assertIs(self.holds("nowhere", thing, ""), thing == "ghost")

    def test_what_holds_it_aside(self):
        self.state.move_thing("chest", ("with",))
        self.assertFalse(self.holds("with", "bag", ""))
        self.assertTrue(self.holds("with", "chest", ""))
        self.assertFalse(self.holds("in", "coin", "chest"))
        self.state.move_thing("shelf", ("nowhere",))
        self.assertFalse(self.holds("nowhere", "tray", ""))
        self.assertTrue(self.holds("on", "tray", "shelf"))

    def test_in_and_on_are_not_the_same(self):
        self.assertFalse(self.holds("on", "bag", "chest"))
        self.assertFalse(self.holds("in", "tray", "shelf"))

    def test_open(self):
        for thing, so in (("chest", True), ("bag", True), ("gate", False), ("lamp", False), ("shelf", False)):
            self.assertIs(self.holds("open", thing, ""), so)
        self.state.set_open("gate", True)
        self.state.set_open("chest", False)
        self.assertTrue(self.holds("open", "gate", ""))
        self.assertFalse(self.holds("open", "chest", ""))

    def test_worn(self):
        self.assertFalse(self.holds("worn", "cap", ""))
        self.state.set_worn("cap", True)
        self.assertTrue(self.holds("worn", "cap", ""))
        self.assertTrue(self.holds("with", "cap", ""))
        self.assertFalse(self.holds("worn", "lamp", ""))

    def test_you(self):
        self.assertTrue(self.holds("you", "hall", ""))
        self.assertFalse(self.holds("you", "hut", ""))
        self.state.go_to("hut")
        self.assertFalse(self.holds("you", "hall", ""))
        self.assertTrue(self.holds("you", "hut", ""))


class TestHoldsAll(unittest.TestCase):
    def test_each_must_hold(self):
        made = kitchen()
        state = State(made)
        right, wrong = (False, "is", "mood", 3), (True, "at", "lamp", "hall")
        for many in range(5):
            for row in itertools.product((right, wrong), repeat=many):
                found = holds_all(made, state, row)
                self.assertIs(type(found), bool)
                self.assertIs(found, wrong not in row)
        self.assertEqual(state.told(), State(made).told())


class TestDoEffects(unittest.TestCase):
    def setUp(self):
        self.world = kitchen()
        self.state = State(self.world)

    def done(self, *effects):
        found = do_effects(self.world, self.state, effects)
        self.assertIs(type(found), tuple)
        self.assertIs(type(found[0]), list)
        self.assertIs(type(found[1]), bool)
        return found

    def test_saying(self):
        before = self.state.told()
        self.assertEqual(self.done(("say", "it is hot")), (["it is hot"], False))
        self.assertEqual(self.done(("say", "a"), ("say", "b c"), ("say", "a")), (["a", "b c", "a"], False))
        self.assertEqual(self.done(), ([], False))
        self.assertEqual(self.state.told(), before)

    def test_setting(self):
        self.assertEqual(self.done(("set", "luck", 9), ("set", "mood", 0), ("set", "luck", 4)), ([], False))
        self.assertEqual(self.state.told(), (*State(self.world).told()[:5], (0, 4)))

    def test_moving(self):
        for where in (("at", "hut"), ("in", "bag"), ("on", "tray"), ("with",), ("nowhere",)):
            self.assertEqual(self.done(("move", "ghost", where)), ([], False))
            self.assertEqual(self.state.where("ghost"), where)

    def test_what_is_worn_is_worn_no_more(self):
        self.state.set_worn("cap", True)
        self.done(("move", "cap", ("with",)))
        self.assertTrue(self.state.is_worn("cap"))
        self.done(("move", "cap", ("in", "bag")), ("move", "cap", ("with",)))
        self.assertFalse(self.state.is_worn("cap"))

    def test_a_move_that_would_make_a_ring_is_passed_over(self):
        before = self.state.told()
        for move in (("chest", ("in", "bag")), ("chest", ("in", "chest")), ("bag", ("in", "bag")), ("tray", ("on", "tray")),
                     ("shelf", ("on", "tray"))):
            self.assertEqual(self.done(("say", "a"), ("move", *move), ("say", "b")), (["a", "b"], False))
            self.assertEqual(self.state.told(), before)

    def test_one_by_one(self):
        self.done(("move", "chest", ("in", "bag")), ("move", "bag", ("at", "hut")), ("move", "chest", ("in", "bag")))
        self.assertEqual((self.state.where("chest"), self.state.where("bag")), (("in", "bag"), ("at", "hut")))
        self.done(("move", "bag", ("in", "chest")), ("set", "mood", 1), ("move", "bag", ("with",)))
        self.assertEqual((self.state.where("bag"), self.state.number_of("mood")), (("with",), 1))

    def test_stop(self):
        before = self.state.told()
        self.assertEqual(self.done(("stop",)), ([], True))
        self.assertEqual(self.done(("stop",), ("say", "a"), ("set", "mood", 7)), ([], True))
        self.assertEqual(self.state.told(), before)
        self.assertEqual(self.done(("say", "a"), ("set", "mood", 7), ("stop",), ("say", "b")), (["a"], True))
        self.assertEqual(self.state.number_of("mood"), 7)
        self.assertEqual(self.done(("say", "a"), ("move", "lamp", ("with",)), ("say", "b"), ("stop",)), (["a", "b"], True))
        self.assertEqual(self.state.where("lamp"), ("with",))

    def test_a_list_of_effects_stays(self):
        effects = [("say", "a"), ("stop",)]
        lines, _ = do_effects(self.world, self.state, effects)
        lines.clear()
        self.assertEqual(effects, [("say", "a"), ("stop",)])
        self.assertEqual(do_effects(self.world, self.state, effects), (["a"], True))


class TestFittingOrder(unittest.TestCase):
    def said(self, *asked, world=None):
        """The words that the fitting rules say."""
        made = kitchen() if world is None else world
        told = made.told()
        found = fitting_order(made, *asked)
        self.assertIs(type(found), list)
        self.assertTrue(all(rule in told[4] for rule in found))
        self.assertEqual(made.told(), told)
        return "".join([rule[4][0][1] for rule in found])

    def test_named_ones_ahead_then_those_with_more_conditions_then_by_rows(self):
        self.assertEqual(self.said("before", "take", "lamp"), "dfbgca")
        self.assertEqual(self.said("before", "take", "coin"), "egca")
        self.assertEqual(self.said("before", "take", "cap"), "gca")

    def test_book_and_verb(self):
        self.assertEqual(self.said("after", "take", "lamp"), "h")
        self.assertEqual(self.said("instead", "take", "lamp"), "")
        self.assertEqual(self.said("before", "drop", "lamp"), "i")
        self.assertEqual(self.said("before", "drop", "coin"), "")
        self.assertEqual(self.said("before", "open", "lamp"), "")

    def test_going(self):
        self.assertEqual(self.said("instead", "go", "hut"), "jk")
        self.assertEqual(self.said("instead", "go", "hall"), "k")
        self.assertEqual(self.said("instead", "go", ""), "k")
        self.assertEqual(self.said("after", "go", "hall"), "n")
        self.assertEqual(self.said("after", "go", ""), "")

    def test_waiting(self):
        self.assertEqual(self.said("instead", "wait", ""), "ml")
        self.assertEqual(self.said("before", "wait", ""), "")

    def test_like_ones_by_rows(self):
        rules = [("after", "take", about, (), (("say", word),)) for about, word in
                 (("", "a"), ("cup", "b"), ("", "c"), ("cup", "d"), ("pin", "e"), ("", "f"))]
        things = [(name, name, (), ("nowhere",), ()) for name in ("cup", "pin")]
        self.assertEqual(self.said("after", "take", "cup", world=world_of(things=things, rules=rules)), "bdacf")

    def test_the_asker_s_own(self):
        made = kitchen()
        fitting_order(made, "before", "take", "lamp").clear()
        self.assertEqual(self.said("before", "take", "lamp", world=made), "dfbgca")


class TestFirstHolding(unittest.TestCase):
    def said(self, state, *asked):
        before = state.told()
        found = first_holding(state.told_world(), state, *asked)
        self.assertEqual(state.told(), before)
        return None if found is None else found[4][0][1]

    def test_the_first_that_holds(self):
        state = State(kitchen())
        self.assertEqual(self.said(state, "before", "take", "lamp"), "d")
        state.set_number("mood", 4)
        self.assertEqual(self.said(state, "before", "take", "lamp"), "f")
        state.set_number("luck", 1)
        self.assertEqual(self.said(state, "before", "take", "lamp"), "b")
        self.assertEqual(self.said(state, "before", "take", "coin"), "a")
        state.set_number("mood", 3)
        self.assertEqual(self.said(state, "before", "take", "coin"), "e")
        self.assertEqual(self.said(state, "before", "take", "cap"), "g")
        state.move_thing("lamp", ("with",))
        self.assertEqual(self.said(state, "before", "take", "cap"), "c")

    def test_none(self):
        state = State(kitchen())
        self.assertEqual(self.said(state, "instead", "wait", ""), "m")
        state.set_number("mood", 0)
        self.assertIsNone(self.said(state, "instead", "wait", ""))
        state.set_number("luck", 1)
        self.assertEqual(self.said(state, "instead", "wait", ""), "l")
        self.assertIsNone(self.said(state, "instead", "take", "lamp"))

    def test_a_whole_rule(self):
        state = State(kitchen())
        self.assertEqual(first_holding(state.told_world(), state, "after", "go", "hall"),
                         ("after", "go", "hall", (), (("say", "n"),)))

    def test_each_function_is_in_its_file(self):
        for function in (holds_now, holds_all, do_effects, fitting_order, first_holding):
            self.assertEqual(function.__module__, "worldtale.books")


if __name__ == "__main__":
    unittest.main()
