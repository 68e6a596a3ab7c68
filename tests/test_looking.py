"""Point 20: which row looking through refuses, with which word and which name."""

import unittest

from tests.samples import HOUSE_LISTS, house, world_of
from worldtale.errors import BadWorld
from worldtale.looking import look_through
from worldtale.worldread import read_world

# A good world, row by row; each test puts rows of its own behind those of their sort.
BASE = {
    "place": ["place hall", "place cellar dark", "place hut"],
    "thing": [
        "thing lamp lamp red : at hall lit",
        "thing chest chest : at hall box",
        "thing desk desk : at hut stand",
        "thing gate gate : nowhere door",
    ],
    "way": ["way hall down cellar by gate", "way cellar up hall by gate"],
    "state": ["state mood 3"],
    "rule": ["rule after take lamp : lamp with you : set mood 4"],
    "every": ["every 2 : always : move lamp in chest"],
    "scene": ["scene fog : always : mood is 4"],
    "end": ["end won : you at cellar"],
}


def text_with(*rows):
    """The text of the good world with more rows, each behind those of its sort."""
    told = []
    for sort, own in BASE.items():
        told.extend(own)
        told.extend([row for row in rows if row.split(" ")[0] == sort])
    return "\n".join(told)


class Looks(unittest.TestCase):
    def good(self, *rows):
        with self.subTest(rows=rows):
            self.assertIsNone(look_through(read_world(text_with(*rows))))

    def refused_text(self, text, what, name):
        with self.subTest(text=text):
            with self.assertRaises(BadWorld) as caught:
                look_through(read_world(text))
            self.assertEqual((caught.exception.what, caught.exception.name), (what, name))

    def refused(self, what, name, *rows):
        """The good world with these rows is refused."""
        self.refused_text(text_with(*rows), what, name)

    def refused_with_condition(self, what, condition):
        """Each sort of row that has conditions is refused for this one, with its own name."""
        self.refused(what, "drop", f"rule before drop any : {condition} : say so")
        self.refused(what, "every", f"every 1 : {condition} : say so")
        self.refused(what, "mist", f"scene mist : {condition} : always")
        self.refused(what, "mist", f"scene mist : always : {condition}")
        self.refused(what, "lost", f"end lost : {condition}")

    def refused_with_effect(self, what, effect):
        """Each sort of row that has effects is refused for this one, with its own name."""
        self.refused(what, "doff", f"rule instead doff any : always : {effect}")
        self.refused(what, "every", f"every 1 : always : {effect}")

    def good_with_condition(self, condition):
        self.good(f"rule before drop any : {condition} : say so", f"every 1 : {condition} : say so",
                  f"scene mist : {condition} : {condition}", f"end lost : {condition}")


class TestGoodWorlds(Looks):
    def test_good_worlds(self):
        self.good()
        self.assertIsNone(look_through(house()))
        self.assertIsNone(look_through(world_of()))

    def test_looking_changes_nothing(self):
        made = house()
        look_through(made)
        look_through(made)
        self.assertEqual(made.told(), HOUSE_LISTS)

    def test_it_is_defined_in_its_file(self):
        self.assertEqual(look_through.__module__, "worldtale.looking")


class TestTwice(Looks):
    def test_in_one_sort(self):
        self.refused("twice", "hall", "place hall")
        self.refused("twice", "lamp", "thing lamp torch : nowhere")
        self.refused("twice", "mood", "state mood 0")
        self.refused("twice", "fog", "scene fog : always : always")
        self.refused("twice", "won", "end won : always")

    def test_across_sorts(self):
        self.refused("twice", "hut", "thing hut torch : nowhere")
        for name in ("hut", "lamp"):
            self.refused("twice", name, f"state {name} 0")
        for name in ("hut", "lamp", "mood"):
            self.refused("twice", name, f"scene {name} : always : always")
        for name in ("hut", "lamp", "mood", "fog"):
            self.refused("twice", name, f"end {name} : always")

    def test_the_later_row_is_refused(self):
        coin, lamp = "thing coin coin : in coin", "thing lamp lamp : nowhere"
        self.refused_text(f"place lamp\n{coin}\n{lamp}", "holder", "coin")
        self.refused_text(f"place lamp\n{lamp}\n{coin}", "twice", "lamp")

    def test_other_rows_may_have_a_name_again(self):
        self.good("thing torch lamp : nowhere", "rule after take lamp : always : say so")
        self.good("thing torch hall mood : nowhere", "every 2 : always : say hall lamp mood")
        self.good("rule after take lamp : always : say so", "rule after take lamp : always : say so")


class TestUnknown(Looks):
    def test_wheres_of_things(self):
        self.refused("unknown", "coin", "thing coin coin : at loft")
        self.refused("unknown", "coin", "thing coin coin : at chest")
        self.refused("unknown", "coin", "thing coin coin : in loft")
        self.refused("unknown", "coin", "thing coin coin : in hall")
        self.refused("unknown", "coin", "thing coin coin : on loft")
        self.refused("unknown", "coin", "thing coin coin : on mood")
        self.good("thing coin coin : in bag", "thing bag bag : nowhere box")
        self.good("thing coin coin : at cellar", "thing cup cup : on desk", "thing cap cap : with you")

    def test_ways(self):
        self.refused("unknown", "east", "way hall east loft")
        self.refused("unknown", "east", "way loft east hall")
        self.refused("unknown", "east", "way lamp east hall")
        self.refused("unknown", "east", "way hall east lamp")
        self.refused("unknown", "east", "way hall east hut by loft")
        self.refused("unknown", "east", "way hall east hut by hall")
        self.good("way hall east hut")

    def test_about(self):
        for verb in ("take", "drop", "put", "open", "shut", "wear", "doff"):
            self.refused("unknown", verb, f"rule after {verb} loft : always : say so")
            self.refused("unknown", verb, f"rule after {verb} hall : always : say so")
            self.refused("unknown", verb, f"rule after {verb} mood : always : say so")
            self.good(f"rule after {verb} lamp : always : say so", f"rule after {verb} any : always : say so")
        self.refused("unknown", "go", "rule after go lamp : always : say so")
        self.refused("unknown", "go", "rule after go loft : always : say so")
        self.good("rule after go hall : always : say so", "rule after go any : always : say so")

    def test_a_rule_of_wait_about_something(self):
        for name in ("lamp", "hall", "mood", "loft", "fog"):
            self.refused("unknown", "wait", f"rule after wait {name} : always : say so")
        self.good("rule after wait any : always : say so")

    def test_conditions(self):
        for condition in ("loft is 1", "lamp is 1", "hall is 1", "loft at hall", "hall at hall", "lamp at loft",
                          "lamp at chest", "loft in chest", "mood in chest", "lamp in loft", "lamp in hall",
                          "loft on desk", "lamp on loft", "lamp on mood", "loft with you", "hall with you",
                          "loft nowhere", "mood nowhere", "loft open", "hall open", "loft worn", "mood worn",
                          "you at loft", "you at lamp", "not loft is 1", "not you at loft", "lamp open and loft open"):
            self.refused_with_condition("unknown", condition)

    def test_effects(self):
        for effect in ("set loft 1", "set lamp 1", "set hall 1", "move loft nowhere", "move hall nowhere",
                       "move mood with you", "move lamp at loft", "move lamp at desk", "move lamp in loft",
                       "move lamp in hall", "move lamp on loft", "move lamp on mood", "say so and set loft 1"):
            self.refused_with_effect("unknown", effect)

    def test_good_names(self):
        for condition in ("mood is 1", "lamp at hut", "lamp in chest", "lamp on desk", "lamp with you", "lamp nowhere",
                          "gate open", "lamp worn", "you at hut", "lamp in lamp", "lamp on chest", "lamp in desk"):
            self.good_with_condition(condition)
        self.good("every 1 : always : say loft and set mood 1 and move lamp at hut and move lamp on desk")


class TestAlike(Looks):
    def test_alike(self):
        self.refused("alike", "torch", "thing torch lamp red : nowhere")
        self.refused("alike", "case", "thing case chest : nowhere")
        self.refused("alike", "cup", "thing bowl cup old big : nowhere", "thing cup cup big old : with you")
        self.refused("alike", "cup", "thing bowl cup old big : nowhere", "thing cup cup old big : nowhere")

    def test_unlike(self):
        self.good("thing torch lamp : nowhere", "thing candle lamp old : nowhere", "thing spark lamp old red : nowhere",
                  "thing star red lamp : nowhere", "thing sun torch red : nowhere")


class TestKind(Looks):
    def test_bad_kinds(self):
        for traits in ("box stand", "clear", "clear lit stand", "clear door", "shut", "shut stand wear", "box door",
                       "door stand", "door fixed", "door wear", "box clear door shut", "box fixed stand"):
            self.refused("kind", "bad", f"thing bad odd : nowhere {traits}")

    def test_good_kinds(self):
        for traits in ("box", "box clear", "box clear shut", "box fixed lit shut wear", "stand", "fixed stand wear",
                       "lit", "wear", "fixed"):
            self.good(f"thing fine odd : nowhere {traits}")
        for traits in ("door", "door shut", "door lit", "door lit shut"):
            self.good(f"thing fine odd : nowhere {traits}", "way hall east hut by fine")


class TestHolder(Looks):
    def test_things(self):
        self.refused("holder", "coin", "thing coin coin : in lamp")
        self.refused("holder", "coin", "thing coin coin : on lamp")
        self.refused("holder", "coin", "thing coin coin : in desk")
        self.refused("holder", "coin", "thing coin coin : on chest")
        self.refused("holder", "coin", "thing coin coin : in gate")
        self.refused("holder", "coin", "thing coin coin : in coin")
        self.refused("holder", "coin", "thing coin coin : on bag", "thing bag bag : nowhere box")
        self.good("thing coin coin : in chest", "thing cup cup : on desk", "thing bag bag : in chest box shut")

    def test_effects(self):
        for where in ("in lamp", "on lamp", "in desk", "on chest", "in gate", "on gate"):
            self.refused_with_effect("holder", f"move lamp {where}")
            self.refused_with_effect("holder", f"move lamp nowhere and say so and move chest {where}")
        self.good("every 1 : always : move lamp in chest and move lamp on desk and move chest in chest")

    def test_conditions_are_not_looked_at(self):
        self.good_with_condition("lamp in desk")
        self.good_with_condition("lamp on lamp")


class TestRing(Looks):
    def test_rings(self):
        self.refused("ring", "bag", "thing bag bag : in bag box")
        self.refused("ring", "tray", "thing tray tray : on tray stand")
        self.refused("ring", "bag", "thing bag bag : in sack box", "thing sack sack : in bag box")
        self.refused("ring", "bag", "thing bag bag : on tray box", "thing tray tray : in bag stand")
        self.refused("ring", "a", "thing a a : in b box", "thing b b : in c box", "thing c c : in d box",
                     "thing d d : in a box")

    def test_what_leads_into_a_ring_is_none(self):
        self.refused("ring", "bag", "thing coin coin : in bag", "thing bag bag : in bag box")
        self.refused("ring", "b", "thing a a : in b box", "thing b b : in c box", "thing c c : in b box")
        self.refused("ring", "c", "thing x x : in a", "thing a a : in b box", "thing b b : in c box",
                     "thing c c : in c box")

    def test_chains(self):
        self.good("thing a a : in b box", "thing b b : in c box", "thing c c : on desk box", "thing d d : in a")

    def test_a_chain_into_what_is_not_there(self):
        self.refused("unknown", "b", "thing a a : in b box", "thing b b : in loft box")

    def test_a_ring_by_what_is_no_box_in_a_later_row(self):
        self.refused("ring", "a", "thing a a : in b", "thing b b : in a box")


class TestDoor(Looks):
    def test_doors_stand_nowhere(self):
        way = "way hall east hut by trap"
        for where in ("at hall", "in chest", "on desk", "with you"):
            self.refused("door", "trap", f"thing trap trap : {where} door", way)
        self.good("thing trap trap : nowhere door", way)

    def test_a_door_that_no_way_goes_by(self):
        self.refused("door", "trap", "thing trap trap : nowhere door", "way hall east hut")

    def test_a_way_by_what_is_no_door(self):
        self.refused("door", "east", "way hall east hut by lamp")
        self.refused("door", "east", "way hall east hut by chest")

    def test_more_ways_by_one_door(self):
        trap = "thing trap trap : nowhere door"
        self.good(trap, "way hall east hut by trap", "way hut west hall by trap")
        self.good(trap, "way hall east hut by trap", "way hut east hall by trap")
        self.refused("door", "east", "way hall east cellar by gate")
        self.refused("door", "west", trap, "way hall east hut by trap", "way hut west cellar by trap")
        self.refused("door", "west", trap, "way hall east hut by trap", "way cellar west hall by trap")
        self.refused("door", "west", trap, "way hall east hut by trap", "way hall west hut by trap")
        self.refused("door", "west", trap, "way hall east hut by trap", "way hut south hall by trap",
                     "way hut west hall by trap")
        self.refused("door", "west", trap, "way hall east hut by trap", "way hut south hall by trap",
                     "way hall west hut by trap")

    def test_conditions(self):
        for condition in ("gate at hall", "gate in chest", "gate on desk", "gate with you", "gate nowhere"):
            self.refused_with_condition("door", condition)
            self.refused_with_condition("door", f"not {condition}")
            self.refused_with_condition("door", f"lamp nowhere and {condition}")
        for condition in ("gate open", "gate worn", "lamp in gate", "lamp on gate"):
            self.good_with_condition(condition)

    def test_effects(self):
        for where in ("at hall", "in chest", "on desk", "with you", "nowhere"):
            self.refused_with_effect("door", f"move gate {where}")
            self.refused_with_effect("door", f"say so and move gate {where}")


class TestWay(Looks):
    def test_a_second_way_of_one_direction(self):
        self.refused("way", "down", "way hall down hut")
        self.refused("way", "down", "way hall down cellar")
        self.refused("way", "east", "way hut east hall", "way hut east cellar")
        self.good("way hut down hall", "way hall up hut", "way cellar down hall")

    def test_a_way_to_its_own_place(self):
        self.refused("way", "east", "way hall east hall")
        self.refused("way", "east", "thing trap trap : nowhere door", "way hall east hall by trap")


class TestNever(Looks):
    def test_beside_its_own_not(self):
        for condition in ("mood is 1", "lamp at hut", "lamp in chest", "lamp on desk", "lamp with you", "lamp nowhere",
                          "gate open", "lamp worn", "you at hut"):
            self.refused_with_condition("never", f"{condition} and not {condition}")
            self.refused_with_condition("never", f"not {condition} and {condition}")
            self.refused_with_condition("never", f"not {condition} and chest open and {condition}")

    def test_each_group_of_a_scene_by_itself(self):
        self.good("scene mist : lamp nowhere : not lamp nowhere")
        self.good("scene mist : not lamp nowhere : lamp nowhere")

    def test_other_pairs(self):
        for condition in ("mood is 1 and not mood is 2", "mood is 1 and mood is 2", "lamp at hut and not lamp at hall",
                          "lamp in chest and not lamp on chest", "lamp open and lamp open",
                          "not lamp open and not lamp open", "lamp open and not chest open",
                          "lamp worn and not lamp open", "always"):
            self.good_with_condition(condition)


class TestOrder(Looks):
    def test_two_faults_in_one_row(self):
        self.refused("twice", "lamp", "thing lamp lamp : at loft")
        self.refused("twice", "mood", "end mood : loft open")
        self.refused("unknown", "torch", "thing torch lamp red : at loft clear")
        self.refused("unknown", "east", "way hall east loft by lamp")
        self.refused("unknown", "drop", "rule after drop loft : gate nowhere and not gate nowhere : move lamp in lamp")
        self.refused("alike", "torch", "thing torch lamp red : in lamp clear")
        self.refused("kind", "torch", "thing torch torch : in lamp clear")
        self.refused("kind", "torch", "thing torch torch : at hall door fixed")
        self.refused("kind", "torch", "thing torch torch : in torch box stand")
        self.refused("holder", "torch", "thing torch torch : in torch")
        self.refused("holder", "torch", "thing torch torch : in lamp door")
        self.refused("holder", "drop", "rule after drop any : gate nowhere : move lamp in lamp")
        self.refused("holder", "every", "every 1 : lamp open and not lamp open : move gate in lamp")
        self.refused("door", "west", "way hall west hall by lamp")
        self.refused("door", "down", "way hall down hut by gate")
        self.refused("door", "lost", "end lost : gate nowhere and not gate nowhere")
        self.refused("door", "drop", "rule after drop any : lamp open and not lamp open : move gate at hall")

    def test_faults_in_two_rows(self):
        self.refused("never", "lost", "end lost : lamp open and not lamp open", "end won : always")
        self.refused("way", "down", "way hall down hut", "way loft east hut")
        self.refused("way", "east", "way hut east hut", "rule after take loft : always : say so")
        self.refused("alike", "torch", "thing torch lamp red : nowhere", "thing lamp coin : nowhere")
        self.refused("twice", "hall", "place hall", "thing torch torch : at loft")
        self.refused("never", "take", "rule after take any : lamp open and not lamp open : say so",
                     "rule after drop loft : always : say so")
        self.refused("door", "every", "every 1 : always : move gate nowhere", "scene fog : always : always")

    def test_the_names_of_the_rows(self):
        self.refused("unknown", "every", "every 3 : loft open : say so")
        self.refused("unknown", "put", "rule instead put loft : always : say so")
        self.refused("unknown", "south", "way hall south loft")


if __name__ == "__main__":
    unittest.main()
