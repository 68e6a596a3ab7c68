"""Point 42: all readings of a clause, in order."""

import itertools
import unittest

from tests.samples import house, shop, world_of
from worldtale.command import clauses_of
from worldtale.looking import look_through
from worldtale.phrases import fits_noun
from worldtale.reach import seen_things
from worldtale.readings import all_readings
from worldtale.state import State

LAMPS = ["one", "two", "three"]


def readings(line, it=None, state=None):
    """The readings of a line of one clause, which change nothing."""
    state = State(shop()) if state is None else state
    before = state.told()
    clause = clauses_of(line)[0]
    told = clause.told()
    found = all_readings(state, clause, it)
    assert state.told() == before and clause.told() == told
    return found


def readings_as_told(state, clause, it):
    """The readings by the words of the document: all rows of unlike things, looked at one by one."""
    world = state.told_world()
    seen = seen_things(state)
    tests = []
    if clause.what[:1] == ("some",):
        tests = [lambda thing, noun=noun: thing in seen and fits_noun(world, thing, noun) for noun in clause.what[1]]
    if clause.holder == ("it",):
        tests.append(lambda thing: thing == it)
    elif clause.holder is not None:
        tests.append(lambda thing: thing in seen and fits_noun(world, thing, clause.holder[1]))
    rows = itertools.permutations(world.thing_names(), len(tests))
    return [list(row) for row in rows if all(test(thing) for test, thing in zip(tests, row))]


class TestPhrases(unittest.TestCase):
    def test_one_noun(self):
        self.assertEqual(readings("take lamp"), [["one"], ["two"], ["three"]])
        self.assertEqual(readings("drop the red lamp"), [["one"], ["three"]])
        self.assertEqual(readings("open door"), [["gate"]])
        self.assertEqual(readings("take red"), [["rose"]])

    def test_two_nouns(self):
        self.assertEqual(readings("take old lamp and cap"), [["one", "cap"], ["one", "hat"], ["two", "cap"], ["two", "hat"]])

    def test_a_thing_that_fits_two_of_them(self):
        self.assertEqual(readings("take lamp and red lamp"), [["one", "three"], ["two", "one"], ["two", "three"],
                                                               ["three", "one"]])
        self.assertEqual(readings("take red lamp and lamp"), [["one", "two"], ["one", "three"], ["three", "one"],
                                                               ["three", "two"]])
        self.assertEqual(readings("take small lamp and small lamp"), [])
        self.assertEqual(readings("take cap and cap and cap"), [])

    def test_three_nouns(self):
        self.assertEqual(readings("take lamp and lamp and lamp"), [list(row) for row in itertools.permutations(LAMPS)])
        self.assertEqual(readings("take green lamp and lamp and red lamp"), [["two", "one", "three"], ["two", "three", "one"]])

    def test_what_is_not_seen(self):
        self.assertEqual(readings("take pin"), [])
        self.assertEqual(readings("take lamp and pin"), [])
        state = State(shop())
        state.go_to("hut")
        self.assertEqual(readings("take lamp", state=state), [["two"]])
        state.move_thing("rose", ("in", "bag"))
        self.assertEqual(readings("take red", state=state), [])

    def test_what_no_thing_fits(self):
        self.assertEqual(readings("take cup"), [])
        self.assertEqual(readings("take small green lamp"), [])

    def test_phrases_without_things(self):
        for line in ("look", "list", "wait", "undo", "up", "go up", "take it", "drop them", "take all", "take all but lamp"):
            self.assertEqual(readings(line), [[]])
            self.assertEqual(readings(line, "one"), [[]])


class TestHolders(unittest.TestCase):
    def test_a_noun(self):
        self.assertEqual(readings("put green lamp in box"), [["two", "chest"], ["two", "bag"]])
        self.assertEqual(readings("put red lamp on tray"), [["one", "tray"], ["one", "shelf"], ["three", "tray"],
                                                            ["three", "shelf"]])
        self.assertEqual(readings("put red lamp in old box"), [["one", "chest"], ["three", "chest"]])
        self.assertEqual(readings("put lamp in pin"), [])

    def test_a_thing_and_its_holder_are_two(self):
        self.assertEqual(readings("put box in box"), [["chest", "bag"], ["bag", "chest"]])
        self.assertEqual(readings("put red box in red box"), [])

    def test_it(self):
        self.assertEqual(readings("put red lamp in it", "bag"), [["one", "bag"], ["three", "bag"]])
        self.assertEqual(readings("put lamp in it", "one"), [["two", "one"], ["three", "one"]])
        self.assertEqual(readings("put green lamp in it", "two"), [])

    def test_it_needs_not_be_seen(self):
        self.assertEqual(readings("put green lamp in it", "pin"), [["two", "pin"]])

    def test_an_it_that_means_nothing(self):
        for line in ("put lamp in it", "put it in it", "put all on it", "put them in it", "put all but lamp in it"):
            self.assertEqual(readings(line, None), [])

    def test_phrases_without_things(self):
        for phrase in ("it", "them", "all", "all but red lamp"):
            self.assertEqual(readings(f"put {phrase} in box", "one"), [["chest"], ["bag"]])
            self.assertEqual(readings(f"put {phrase} in box"), [["chest"], ["bag"]])
            self.assertEqual(readings(f"put {phrase} in it", "bag"), [["bag"]])
            self.assertEqual(readings(f"put {phrase} in cup"), [])


class TestAll(unittest.TestCase):
    def test_as_told(self):
        state = State(shop())
        nouns = ("lamp", "red lamp", "box", "red", "tray", "cup")
        phrases = [*nouns, "it", "them", "all", "all but lamp", *[" and ".join(row) for row in itertools.product(nouns, repeat=2)],
                   "lamp and box and lamp", "red tray and tray and tray", "old lamp and red lamp and lamp"]
        for phrase, it in itertools.product(phrases, (None, "one", "chest", "pin")):
            for line in (f"take {phrase}", *[f"put {phrase} in {holder}" for holder in ("it", "box", "lamp", "cup")]):
                clause = clauses_of(line)[0]
                self.assertEqual(all_readings(state, clause, it), readings_as_told(state, clause, it), (line, it))

    def test_ordered_by_where_things_stand_in_the_world(self):
        things = [(name, "cup", (word,), ("at", "hall"), ()) for name, word in (("z", "red"), ("a", "old"), ("m", "blue"))]
        made = world_of(things=things)
        look_through(made)
        self.assertEqual(readings("take cup and cup", state=State(made)),
                         [["z", "a"], ["z", "m"], ["a", "z"], ["a", "m"], ["m", "z"], ["m", "a"]])

    def test_twelve_things_that_fit_all(self):
        words = [(one, two) for one in ("a", "b", "c", "d") for two in ("x", "y", "z")]
        things = [("".join(pair), "cup", pair, ("with",), ("box",)) for pair in words]
        state = State(world_of(things=things))
        self.assertEqual(len(readings("put cup and cup and cup in cup", state=state)), 12 * 11 * 10 * 9)

    def test_the_asker_s_own(self):
        state = State(shop())
        clause = clauses_of("take lamp")[0]
        found = all_readings(state, clause, None)
        found[0].append("pin")
        found.pop()
        self.assertEqual(all_readings(state, clause, None), [["one"], ["two"], ["three"]])
        nothing = clauses_of("look")[0]
        all_readings(state, nothing, None)[0].append("pin")
        self.assertEqual(all_readings(state, nothing, None), [[]])

    def test_it_is_in_its_file(self):
        self.assertEqual(all_readings.__module__, "worldtale.readings")
        self.assertEqual(readings("take coin", state=State(house())), [["coin"]])


if __name__ == "__main__":
    unittest.main()
