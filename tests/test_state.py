"""Point 30: the state at the beginning, its deeds, and what they refuse."""

import unittest

from tests.samples import HOUSE_LISTS, NOTHING_THERE, Alike, house, world_of
from worldtale.errors import BadState, OutOfPlace
from worldtale.state import State

NO_TRUTHS = (0, 1, None, "", "True", "yes", [], (), {}, set(), object(), Alike())
NO_WHERES = (None, True, False, 0, 1, "", "hall", "with", "nowhere", "at hall", [], {}, set(), object(), (), ("at",),
             ("in",), ("on",), ("hall",), ("with", "you"), ("with", ""), ("nowhere", ""), ("nowhere", "hall"),
             ("at", "hall", "hall"), ["at", "hall"], ["with"], ["nowhere"], ("under", "table"), ("is", "hall"),
             ("", "hall"), ("with",) * 3, (None,), ([],), (None, "hall"), ([], "hall"), ({}, "chest"), (True, "hall"),
             ("at", None), ("at", []), ("in", []), ("on", {}), ("at", ("hall",)), ("in", True), ("on", 1),
             ("WITH",), (("with",),), Alike(), (Alike(),), (Alike(), "hall"), ("at", Alike()))

BEGINNING = (
    "hall",
    0,
    (("at", "hall"), ("at", "hall"), ("at", "cellar"), ("with",), ("in", "chest"), ("on", "table"), ("nowhere",),
     ("nowhere",)),
    (),
    (),
    (3, 0),
)


def holding_world():
    """A world of boxes and stands, none of which is in another."""
    names = (("bag", "box"), ("sack", "box"), ("tray", "stand"), ("board", "stand"))
    things = [(name, name, (), ("at", "hall"), (trait,)) for name, trait in names]
    return world_of(things=[*things, ("coin", "coin", (), ("nowhere",), ()), ("hat", "hat", (), ("with",), ("wear",))])


class Refusing(unittest.TestCase):
    def refused(self, error, state, deed, *given):
        """A deed is refused with this very error, and changes nothing."""
        with self.subTest(deed=deed, given=given):
            before = state.told()
            with self.assertRaises(error) as caught:
                getattr(state, deed)(*given)
            self.assertIs(type(caught.exception), error)
            self.assertEqual(state.told(), before)


class TestBeginning(Refusing):
    def test_told(self):
        told = State(house()).told()
        self.assertEqual(told, BEGINNING)
        self.assertEqual([type(part) for part in told], [str, int, tuple, tuple, tuple, tuple])

    def test_a_world_of_one_place(self):
        self.assertEqual(State(world_of()).told(), ("hall", 0, (), (), (), ()))

    def test_questions(self):
        state = State(house())
        self.assertEqual(state.here(), "hall")
        self.assertEqual(state.turn(), 0)
        for thing in HOUSE_LISTS[1]:
            self.assertEqual(state.where(thing[0]), thing[3])
            self.assertIs(state.is_worn(thing[0]), False)
        self.assertEqual(state.number_of("mood"), 3)
        self.assertEqual(state.number_of("luck"), 0)

    def test_boxes_and_doors_are_open_but_where_told_shut(self):
        things = [
            ("a", "a", (), ("nowhere",), ("box",)),
            ("b", "b", (), ("nowhere",), ("box", "shut")),
            ("c", "c", (), ("nowhere",), ("door",)),
            ("d", "d", (), ("nowhere",), ("door", "shut")),
            ("e", "e", (), ("nowhere",), ("stand",)),
            ("f", "f", (), ("nowhere",), ()),
        ]
        ways = [("hall", "up", "hut", "c"), ("hall", "down", "hut", "d")]
        state = State(world_of(places=[("hall", True), ("hut", False)], things=things, ways=ways))
        self.assertEqual([state.is_open(thing[0]) for thing in things], [True, False, True, False, False, False])
        self.assertEqual(state.told()[3], ("a", "c"))
        for thing in "abcdef":
            self.assertIs(type(state.is_open(thing)), bool)

    def test_questions_of_what_is_not_there(self):
        state = State(house())
        for question in ("where", "is_open", "is_worn", "number_of"):
            for thing in (*NOTHING_THERE, "hall", "fog", "rich", "up", "red"):
                self.refused(OutOfPlace, state, question, thing)
        for question in ("where", "is_open", "is_worn"):
            self.refused(OutOfPlace, state, question, "mood")
        self.refused(OutOfPlace, state, "number_of", "lamp")

    def test_told_world(self):
        made = house()
        state = State(made)
        self.assertEqual(state.told_world().told(), HOUSE_LISTS)
        state.move_thing("lamp", ("nowhere",))
        state.set_number("mood", 9)
        self.assertEqual(state.told_world().told(), HOUSE_LISTS)
        self.assertEqual(made.told(), HOUSE_LISTS)
        self.assertEqual(state.copied().told_world().told(), HOUSE_LISTS)

    def test_the_worlds_lists_may_be_changed(self):
        made = house()
        state = State(made)
        for rows in (*made.told(), *state.told_world().told()):
            rows.clear()
        self.assertEqual(state.told(), BEGINNING)
        self.assertEqual(state.told_world().told(), HOUSE_LISTS)
        self.assertEqual(state.copied().told(), BEGINNING)

    def test_states_of_one_world_go_their_own_ways(self):
        made = house()
        one, two = State(made), State(made)
        one.move_thing("lamp", ("with",))
        one.go_to("hut")
        self.assertEqual(two.told(), BEGINNING)

    def test_each_method_is_in_the_class(self):
        for name in ("here", "turn", "where", "is_open", "is_worn", "number_of", "move_thing", "set_open", "set_worn",
                     "set_number", "go_to", "next_turn", "told", "copied", "told_world"):
            self.assertIn(name, vars(State))
        self.assertEqual(State.__module__, "worldtale.state")


class TestMoveThing(Refusing):
    def test_each_where(self):
        for where in (("at", "hall"), ("at", "cellar"), ("in", "chest"), ("on", "table"), ("with",), ("nowhere",)):
            state = State(house())
            self.assertIsNone(state.move_thing("ghost", where))
            self.assertEqual(state.where("ghost"), where)
            wheres = (*BEGINNING[2][:6], where, BEGINNING[2][7])
            self.assertEqual(state.told(), (*BEGINNING[:2], wheres, *BEGINNING[3:]))

    def test_to_where_it_is(self):
        for thing, _, _, where, traits in HOUSE_LISTS[1]:
            if "door" not in traits:
                state = State(house())
                state.move_thing(thing, where)
                self.assertEqual(state.told(), BEGINNING)

    def test_what_it_holds_stays_in_it(self):
        state = State(house())
        state.move_thing("chest", ("on", "table"))
        self.assertEqual(state.where("coin"), ("in", "chest"))

    def test_fixed_and_shut_are_not_looked_at(self):
        state = State(house())
        state.move_thing("table", ("with",))
        state.move_thing("lamp", ("in", "chest"))
        self.assertEqual((state.where("table"), state.where("lamp")), (("with",), ("in", "chest")))

    def test_what_is_worn(self):
        for where in (("at", "hall"), ("in", "chest"), ("on", "table"), ("nowhere",)):
            state = State(house())
            state.set_worn("cap", True)
            state.move_thing("cap", where)
            self.assertIs(state.is_worn("cap"), False)
            self.assertEqual(state.told()[4], ())
            state.move_thing("cap", ("with",))
            self.assertIs(state.is_worn("cap"), False)
        state = State(house())
        state.set_worn("cap", True)
        state.move_thing("cap", ("with",))
        self.assertIs(state.is_worn("cap"), True)
        state.move_thing("lamp", ("nowhere",))
        self.assertIs(state.is_worn("cap"), True)

    def test_what_is_not_there(self):
        state = State(house())
        for thing in (*NOTHING_THERE, "hall", "mood", "fog"):
            for where in (("at", "hall"), ("at", "loft"), None, ("in", thing)):
                self.refused(OutOfPlace, state, "move_thing", thing, where)

    def test_a_door(self):
        state = State(house())
        for where in (("at", "hall"), ("in", "chest"), ("on", "table"), ("with",), ("nowhere",), None):
            self.refused(BadState, state, "move_thing", "gate", where)

    def test_what_is_no_where(self):
        state = State(house())
        for where in NO_WHERES:
            self.refused(BadState, state, "move_thing", "lamp", where)
            self.refused(BadState, state, "move_thing", "cap", where)

    def test_names_that_are_not_there(self):
        state = State(house())
        for name in NOTHING_THERE:
            for link in ("at", "in", "on"):
                self.refused(BadState, state, "move_thing", "lamp", (link, name))
        for where in (("at", "chest"), ("at", "table"), ("at", "mood"), ("in", "hall"), ("on", "hall"), ("in", "mood"),
                      ("on", "fog")):
            self.refused(BadState, state, "move_thing", "lamp", where)

    def test_what_can_not_hold(self):
        state = State(house())
        for where in (("in", "table"), ("on", "chest"), ("in", "coin"), ("on", "coin"), ("in", "gate"), ("on", "gate"),
                      ("in", "cap")):
            self.refused(BadState, state, "move_thing", "lamp", where)

    def test_what_would_hold_itself(self):
        state = State(holding_world())
        for thing, link in (("bag", "in"), ("sack", "in"), ("tray", "on"), ("board", "on")):
            self.refused(BadState, state, "move_thing", thing, (link, thing))
        state.move_thing("bag", ("on", "tray"))
        self.refused(BadState, state, "move_thing", "tray", ("in", "bag"))
        state.move_thing("sack", ("in", "bag"))
        self.refused(BadState, state, "move_thing", "tray", ("in", "sack"))
        self.refused(BadState, state, "move_thing", "bag", ("in", "sack"))
        state.move_thing("board", ("in", "sack"))
        for thing in ("tray", "bag", "sack", "board"):
            self.refused(BadState, state, "move_thing", thing, ("on", "board"))
        state.move_thing("coin", ("on", "board"))
        state.move_thing("board", ("in", "bag"))
        state.move_thing("sack", ("on", "board"))
        self.assertEqual([state.where(thing) for thing in ("bag", "sack", "tray", "board", "coin")],
                         [("on", "tray"), ("on", "board"), ("at", "hall"), ("in", "bag"), ("on", "board")])


class TestSetOpen(Refusing):
    def test_boxes_and_doors(self):
        state = State(house())
        self.assertIsNone(state.set_open("gate", True))
        self.assertIs(state.is_open("gate"), True)
        self.assertEqual(state.told()[3], ("gate",))
        state.set_open("chest", True)
        self.assertEqual(state.told(), (*BEGINNING[:3], ("chest", "gate"), *BEGINNING[4:]))
        state.set_open("chest", True)
        state.set_open("gate", False)
        state.set_open("gate", False)
        self.assertEqual(state.told()[3], ("chest",))
        self.assertIs(state.is_open("gate"), False)

    def test_what_is_not_there(self):
        state = State(house())
        for thing in (*NOTHING_THERE, "hall", "mood"):
            for truth in (True, False, None, 1):
                self.refused(OutOfPlace, state, "set_open", thing, truth)

    def test_what_is_no_box_or_door(self):
        state = State(house())
        for thing in ("lamp", "table", "cap", "coin"):
            for truth in (True, False, None, 1):
                self.refused(BadState, state, "set_open", thing, truth)

    def test_what_is_no_truth(self):
        state = State(house())
        for truth in NO_TRUTHS:
            self.refused(BadState, state, "set_open", "chest", truth)
            self.refused(BadState, state, "set_open", "gate", truth)


class TestSetWorn(Refusing):
    def test_on_and_off(self):
        state = State(house())
        self.assertIsNone(state.set_worn("cap", True))
        self.assertIs(state.is_worn("cap"), True)
        self.assertEqual(state.told(), (*BEGINNING[:4], ("cap",), BEGINNING[5]))
        self.assertEqual(state.where("cap"), ("with",))
        state.set_worn("cap", True)
        self.assertIsNone(state.set_worn("cap", False))
        self.assertEqual(state.told(), BEGINNING)
        state.set_worn("cap", False)
        self.assertEqual(state.told(), BEGINNING)

    def test_in_the_order_of_things(self):
        things = [(name, name, (), ("with",), ("wear",)) for name in ("hat", "belt", "apron")]
        state = State(world_of(things=things))
        for name in ("apron", "hat", "belt"):
            state.set_worn(name, True)
        self.assertEqual(state.told()[4], ("hat", "belt", "apron"))

    def test_what_is_not_there(self):
        state = State(house())
        for thing in (*NOTHING_THERE, "hall", "mood"):
            for truth in (True, False, None, 1):
                self.refused(OutOfPlace, state, "set_worn", thing, truth)

    def test_what_has_no_wear(self):
        state = State(house())
        state.move_thing("lamp", ("with",))
        for thing in ("lamp", "chest", "gate"):
            for truth in (True, False, None):
                self.refused(BadState, state, "set_worn", thing, truth)

    def test_what_is_not_with_you_itself(self):
        for where in (("at", "hall"), ("nowhere",), ("in", "chest"), ("on", "table")):
            state = State(house())
            state.move_thing("chest", ("with",))
            state.move_thing("table", ("with",))
            state.move_thing("cap", where)
            for truth in (True, False, None, 1):
                self.refused(BadState, state, "set_worn", "cap", truth)

    def test_what_is_no_truth(self):
        state = State(house())
        for truth in NO_TRUTHS:
            self.refused(BadState, state, "set_worn", "cap", truth)
        state.set_worn("cap", True)
        for truth in NO_TRUTHS:
            self.refused(BadState, state, "set_worn", "cap", truth)


class TestSetNumber(Refusing):
    def test_each_figure(self):
        state = State(house())
        for number in range(10):
            self.assertIsNone(state.set_number("luck", number))
            self.assertEqual(state.number_of("luck"), number)
            self.assertEqual(state.told(), (*BEGINNING[:5], (3, number)))

    def test_what_is_not_there(self):
        state = State(house())
        for name in (*NOTHING_THERE, "hall", "lamp", "fog"):
            for number in (1, 10, True, None):
                self.refused(OutOfPlace, state, "set_number", name, number)

    def test_what_is_no_whole_number_from_0_to_9(self):
        state = State(house())
        for number in (-1, 10, 11, 100, 10**30, True, False, None, "", "3", [], [3], (3,), {}, set(), b"3", object(), Alike()):
            self.refused(BadState, state, "set_number", "mood", number)


class TestGoTo(Refusing):
    def test_each_place(self):
        state = State(house())
        for place in ("cellar", "hut", "hut", "hall"):
            self.assertIsNone(state.go_to(place))
            self.assertEqual(state.here(), place)
            self.assertEqual(state.told(), (place, *BEGINNING[1:]))

    def test_what_is_not_there(self):
        state = State(house())
        for place in (*NOTHING_THERE, "lamp", "mood", "up", "fog"):
            self.refused(OutOfPlace, state, "go_to", place)


class TestNextTurn(unittest.TestCase):
    def test_one_more(self):
        state = State(house())
        for many in range(1, 12):
            self.assertIsNone(state.next_turn())
            self.assertEqual(state.turn(), many)
            self.assertEqual(state.told(), ("hall", many, *BEGINNING[2:]))


class TestCopied(unittest.TestCase):
    def changed(self):
        """A state in which everything is other than at the beginning."""
        state = State(house())
        state.go_to("hut")
        state.next_turn()
        state.move_thing("lamp", ("in", "chest"))
        state.set_open("gate", True)
        state.set_worn("cap", True)
        state.set_number("luck", 7)
        return state

    def change_more(self, state):
        state.go_to("cellar")
        state.next_turn()
        state.move_thing("lamp", ("nowhere",))
        state.set_open("chest", True)
        state.set_open("gate", False)
        state.set_worn("cap", False)
        state.set_number("luck", 1)

    def test_alike(self):
        state = self.changed()
        other = state.copied()
        self.assertIs(type(other), State)
        self.assertIsNot(other, state)
        self.assertEqual(other.told(), state.told())
        self.assertNotEqual(other.told(), BEGINNING)

    def test_a_copy_made_ahead_goes_its_own_way(self):
        state = self.changed()
        other = state.copied()
        before = state.told()
        self.change_more(state)
        self.assertEqual(other.told(), before)
        after = state.told()
        other.set_number("mood", 0)
        other.go_to("hall")
        self.assertEqual(state.told(), after)

    def test_the_copy_may_be_changed(self):
        state = self.changed()
        before = state.told()
        self.change_more(state.copied())
        self.assertEqual(state.told(), before)

    def test_a_copy_does_and_refuses_alike(self):
        one = self.changed()
        two = one.copied()
        self.change_more(one)
        self.change_more(two)
        self.assertEqual(one.told(), two.told())
        for state in (one, two):
            with self.assertRaises(OutOfPlace):
                state.go_to("loft")
            with self.assertRaises(BadState):
                state.move_thing("gate", ("nowhere",))


if __name__ == "__main__":
    unittest.main()
