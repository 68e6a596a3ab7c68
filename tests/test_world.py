"""Points 0 and 4: a World keeps nothing that is handed in, and what it tells is the asker's own."""

import inspect
import unittest

from tests.samples import HOUSE_LISTS, NAMES, NOTHING_THERE, house
from worldtale import world as world_file
from worldtale.errors import OutOfPlace
from worldtale.world import World


class TestWorld(unittest.TestCase):
    def test_tells_the_eight_lists(self):
        told = house().told()
        self.assertIs(type(told), tuple)
        self.assertEqual(told, HOUSE_LISTS)
        for rows in told:
            self.assertIs(type(rows), list)
            for row in rows:
                self.assertIs(type(row), tuple)

    def test_empty_lists(self):
        self.assertEqual(World([], [], [], [], [], [], [], []).told(), ([], [], [], [], [], [], [], []))

    def test_each_list_in_its_place(self):
        for at in range(8):
            lists = [[] for _ in range(8)]
            lists[at] = [("a", at)]
            self.assertEqual(World(*lists).told(), tuple(lists))

    def test_arguments_by_name(self):
        told = World(**dict(zip(NAMES, HOUSE_LISTS))).told()
        self.assertEqual(told, HOUSE_LISTS)
        self.assertEqual(list(inspect.signature(World).parameters), list(NAMES))

    def test_lists_handed_in_may_be_changed_afterwards(self):
        lists = [list(rows) for rows in HOUSE_LISTS]
        made = World(*lists)
        for rows in lists:
            rows.reverse()
            rows.append(("new",))
            rows[0] = ("other",)
        self.assertEqual(made.told(), HOUSE_LISTS)
        for rows in lists:
            rows.clear()
        self.assertEqual(made.told(), HOUSE_LISTS)

    def test_lists_handed_in_are_not_changed(self):
        lists = [list(rows) for rows in HOUSE_LISTS]
        World(*lists).told()
        self.assertEqual(tuple(lists), HOUSE_LISTS)

    def test_lists_told_may_be_changed(self):
        made = house()
        for rows in made.told():
            rows.append(("new",))
            rows[0] = ("other",)
        self.assertEqual(made.told(), HOUSE_LISTS)
        for rows in made.told():
            rows.clear()
        self.assertEqual(made.told(), HOUSE_LISTS)

    def test_two_worlds_share_nothing(self):
        one, two = house(), house()
        one.told()[0].clear()
        self.assertEqual(two.told(), one.told())

    def test_it_is_defined_in_its_file(self):
        self.assertEqual(World.__module__, world_file.__name__)
        self.assertIn("told", vars(World))


class TestLookingUp(unittest.TestCase):
    def test_names(self):
        made = house()
        self.assertEqual(made.place_names(), [row[0] for row in HOUSE_LISTS[0]])
        self.assertEqual(made.thing_names(), [row[0] for row in HOUSE_LISTS[1]])
        made.place_names().clear()
        made.thing_names().clear()
        self.assertEqual(made.told(), HOUSE_LISTS)

    def test_things(self):
        made = house()
        for thing, noun, adjectives, _, traits in HOUSE_LISTS[1]:
            self.assertEqual((made.noun_of(thing), made.adjectives_of(thing)), (noun, adjectives))
            for trait in ("box", "clear", "door", "fixed", "lit", "shut", "stand", "wear"):
                self.assertIs(made.has_trait(thing, trait), trait in traits)
            self.assertIs(made.has_lid(thing), thing in ("chest", "gate"))

    def test_what_is_not_there(self):
        made = house()
        for name in (*NOTHING_THERE, "hall", "mood"):
            for deed in (made.noun_of, made.adjectives_of, made.has_lid):
                self.assertRaises(OutOfPlace, deed, name)
            self.assertRaises(OutOfPlace, made.has_trait, name, "box")


if __name__ == "__main__":
    unittest.main()
