"""Points 50, 51 and of 52 "all": ranks, the best readings, and what all means."""

import itertools
import unittest

from tests.samples import shop, world_of
from worldtale.command import clauses_of
from worldtale.errors import OutOfPlace
from worldtale.looking import look_through
from worldtale.ranks import all_meant, best_readings, holder_rank, rank_of
from worldtale.readings import all_readings
from worldtale.state import State

VERBS = ("take", "drop", "put", "open", "shut", "wear", "doff")


def changed_shop():
    """The shop with the red cap worn, the old box in the tray, the gate open and a lamp in the red box."""
    state = State(shop())
    state.set_worn("cap", True)
    state.move_thing("chest", ("on", "tray"))
    state.set_open("gate", True)
    state.move_thing("three", ("in", "bag"))
    return state


class TestRankOf(unittest.TestCase):
    def suited(self, verb, state):
        before = state.told()
        names = state.told_world().thing_names()
        ranks = [rank_of(state, verb, name) for name in names]
        self.assertEqual({type(rank) for rank in ranks}, {int})
        self.assertLessEqual(set(ranks), {0, 1})
        self.assertEqual(state.told(), before)
        return [name for name, rank in zip(names, ranks) if rank == 0]

    def test_take(self):
        self.assertEqual(self.suited("take", State(shop())), ["one", "three", "chest", "tray", "shelf", "rose", "pin", "gate"])
        self.assertEqual(self.suited("take", changed_shop()), ["one", "chest", "tray", "shelf", "rose", "pin", "gate"])

    def test_drop_wear_and_put(self):
        for verb in ("drop", "wear", "put"):
            self.assertEqual(self.suited(verb, State(shop())), ["two", "bag", "cap", "hat"])
            self.assertEqual(self.suited(verb, changed_shop()), ["two", "bag", "cap", "hat"])

    def test_open(self):
        self.assertEqual(self.suited("open", State(shop())), ["bag", "gate"])
        self.assertEqual(self.suited("open", changed_shop()), ["bag"])

    def test_shut(self):
        self.assertEqual(self.suited("shut", State(shop())), ["chest"])
        self.assertEqual(self.suited("shut", changed_shop()), ["chest", "gate"])

    def test_doff(self):
        self.assertEqual(self.suited("doff", State(shop())), [])
        self.assertEqual(self.suited("doff", changed_shop()), ["cap"])

    def test_names_that_are_not_there(self):
        state = State(shop())
        for verb, name in itertools.product(VERBS, ("loft", "", "hall", None, [])):
            self.assertRaises(OutOfPlace, rank_of, state, verb, name)


class TestHolderRank(unittest.TestCase):
    def suited(self, link, state):
        before = state.told()
        names = state.told_world().thing_names()
        ranks = [holder_rank(state, link, name) for name in names]
        self.assertEqual({type(rank) for rank in ranks}, {int})
        self.assertLessEqual(set(ranks), {0, 1})
        self.assertEqual(state.told(), before)
        return [name for name, rank in zip(names, ranks) if rank == 0]

    def test_in(self):
        self.assertEqual(self.suited("in", State(shop())), ["chest"])
        state = changed_shop()
        self.assertEqual(self.suited("in", state), ["chest"])
        state.set_open("bag", True)
        state.set_open("chest", False)
        self.assertEqual(self.suited("in", state), ["bag"])

    def test_on(self):
        self.assertEqual(self.suited("on", State(shop())), ["tray", "shelf"])
        self.assertEqual(self.suited("on", changed_shop()), ["tray", "shelf"])

    def test_names_that_are_not_there(self):
        for link, name in itertools.product(("in", "on"), ("loft", "", "hall", None, [])):
            self.assertRaises(OutOfPlace, holder_rank, State(shop()), link, name)


def best(line, it=None, state=None):
    """The best readings of a line of one clause, which change nothing."""
    state = State(shop()) if state is None else state
    before = state.told()
    found = best_readings(state, clauses_of(line)[0], it)
    assert state.told() == before
    return found


class TestBestReadings(unittest.TestCase):
    def test_one_noun(self):
        self.assertEqual(best("take lamp"), [["one"], ["three"]])
        self.assertEqual(best("drop lamp"), [["two"]])
        self.assertEqual(best("take old lamp"), [["one"]])
        self.assertEqual(best("open box"), [["bag"]])
        self.assertEqual(best("shut box"), [["chest"]])
        self.assertEqual(best("wear cap"), [["cap"], ["hat"]])

    def test_of_like_ranks_all_are_left(self):
        self.assertEqual(best("open lamp"), [["one"], ["two"], ["three"]])
        self.assertEqual(best("doff cap"), [["cap"], ["hat"]])
        self.assertEqual(best("doff cap", state=changed_shop()), [["cap"]])
        self.assertEqual(best("take green lamp"), [["two"]])

    def test_several_nouns(self):
        self.assertEqual(best("take lamp and red lamp"), [["one", "three"], ["three", "one"]])
        self.assertEqual(best("drop lamp and lamp"), [["two", "one"], ["two", "three"]])
        self.assertEqual(best("take lamp and lamp and lamp"), [["one", "three", "two"], ["three", "one", "two"]])

    def test_an_earlier_thing_goes_ahead_of_a_later_one(self):
        self.assertEqual(best("drop old lamp and green lamp"), [["one", "two"]])
        self.assertEqual(best("drop lamp and old lamp"), [["two", "one"]])
        self.assertEqual(best("put lamp in box"), [["two", "chest"]])
        self.assertEqual(best("put box in box"), [["bag", "chest"]])
        state = State(shop())
        state.move_thing("bag", ("at", "hall"))
        state.move_thing("chest", ("with",))
        self.assertEqual(best("put box in box", state=state), [["chest", "bag"]])

    def test_holders(self):
        self.assertEqual(best("put green lamp in box"), [["two", "chest"]])
        self.assertEqual(best("put green lamp on tray"), [["two", "tray"], ["two", "shelf"]])
        self.assertEqual(best("put green lamp on box"), [["two", "chest"], ["two", "bag"]])
        self.assertEqual(best("put cap in red box"), [["cap", "bag"], ["hat", "bag"]])
        self.assertEqual(best("put lamp in it", "two"), [["one", "two"], ["three", "two"]])
        self.assertEqual(best("put all in box"), [["chest"]])
        self.assertEqual(best("put them in box"), [["chest"]])
        self.assertEqual(best("put it on box", "one"), [["chest"], ["bag"]])

    def test_no_readings(self):
        self.assertEqual(best("take pin"), [])
        self.assertEqual(best("put lamp in it"), [])
        self.assertEqual(best("put green lamp in it", "two"), [])

    def test_phrases_without_things(self):
        for line in ("look", "wait", "up", "take all", "take it", "drop them", "take all but lamp"):
            self.assertEqual(best(line), [[]])

    def test_least_row_of_ranks(self):
        states = (State(shop()), changed_shop())
        nouns = ("lamp", "box", "cap", "red", "tray")
        for verb, nouns, state in itertools.product(VERBS, itertools.product(nouns, repeat=2), states):
            lines = [f"{verb} {nouns[0]} and {nouns[1]}"]
            if verb == "put":
                lines = [f"{lines[0]} {link} {holder}" for link in ("in", "on") for holder in ("box", "tray", "it")]
            for line in lines:
                self.least(state, clauses_of(line)[0])

    def least(self, state, clause):
        rows = {}
        for reading in all_readings(state, clause, "chest"):
            things = reading if clause.holder is None else reading[:-1]
            row = [rank_of(state, clause.verb, thing) for thing in things]
            if clause.holder is not None:
                row.append(holder_rank(state, clause.link, reading[-1]))
            rows.setdefault(tuple(row), []).append(reading)
        self.assertEqual(best_readings(state, clause, "chest"), rows[min(rows)] if rows else [], clause.told())

    def test_the_asker_s_own(self):
        found = best("take lamp")
        found[0].append("pin")
        found.clear()
        self.assertEqual(best("take lamp"), [["one"], ["three"]])


def meant(line, holder="", state=None):
    state = State(shop()) if state is None else state
    before = state.told()
    found = all_meant(state, clauses_of(line)[0], holder)
    assert state.told() == before
    return found


class TestAllMeant(unittest.TestCase):
    def test_seen_things_of_rank_0_in_the_world_s_order(self):
        self.assertEqual(meant("take all"), ["one", "three", "chest", "tray", "shelf", "rose", "gate"])
        self.assertEqual(meant("drop all"), ["two", "bag", "cap", "hat"])
        self.assertEqual(meant("open all"), ["bag", "gate"])
        self.assertEqual(meant("shut all"), ["chest"])
        self.assertEqual(meant("wear all"), ["two", "bag", "cap", "hat"])
        self.assertEqual(meant("doff all"), [])
        self.assertEqual(meant("doff all", state=changed_shop()), ["cap"])

    def test_what_is_not_seen(self):
        state = State(shop())
        state.move_thing("rose", ("in", "bag"))
        state.move_thing("bag", ("at", "hall"))
        self.assertEqual(meant("take all", state=state), ["one", "three", "chest", "bag", "tray", "shelf", "gate"])
        state.go_to("hut")
        self.assertEqual(meant("take all", state=state), [])

    def test_but(self):
        self.assertEqual(meant("take all but lamp"), ["chest", "tray", "shelf", "rose", "gate"])
        self.assertEqual(meant("take all but red lamp"), ["chest", "tray", "shelf", "rose", "gate"])
        self.assertEqual(meant("take all but small lamp"), ["one", "chest", "tray", "shelf", "rose", "gate"])
        self.assertEqual(meant("take all but the old lamp and tray and door"), ["three", "chest", "rose"])
        self.assertEqual(meant("take all but red"), ["one", "three", "chest", "tray", "shelf", "gate"])
        self.assertEqual(meant("take all but pin and cup"), ["one", "three", "chest", "tray", "shelf", "rose", "gate"])
        self.assertEqual(meant("drop all but cap and lamp and box"), [])

    def test_holders(self):
        self.assertEqual(meant("put all in it", "chest"), ["two", "bag", "cap", "hat"])
        self.assertEqual(meant("put all in it", "bag"), ["two", "cap", "hat"])
        self.assertEqual(meant("put all but cap in box", "bag"), ["two"])
        self.assertEqual(meant("put all but lamp in box", ""), ["bag", "cap", "hat"])

    def test_the_order_of_the_world_not_of_names(self):
        things = [(name, "cup", (word,), ("with",), ()) for name, word in (("z", "red"), ("a", "old"), ("m", "blue"))]
        made = world_of(things=things)
        look_through(made)
        self.assertEqual(meant("drop all", state=State(made)), ["z", "a", "m"])

    def test_the_asker_s_own(self):
        found = meant("drop all")
        self.assertIs(type(found), list)
        found.clear()
        self.assertEqual(meant("drop all"), ["two", "bag", "cap", "hat"])

    def test_each_function_is_in_its_file(self):
        for function in (rank_of, holder_rank, best_readings, all_meant):
            self.assertEqual(function.__module__, "worldtale.ranks")


if __name__ == "__main__":
    unittest.main()
