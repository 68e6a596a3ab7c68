"""Points 2 to 4: each sort of row, of condition and of effect, written and read."""

import unittest

from tests.samples import HOUSE_LISTS, HOUSE_TEXT, NAMES, house, world_of
from worldtale.world import World
from worldtale.worldread import read_world
from worldtale.worldtext import world_text

TRAITS = ("box", "clear", "door", "fixed", "lit", "shut", "stand", "wear")
VERBS = ("take", "drop", "put", "open", "shut", "wear", "doff", "go", "wait")
SAY = (("say", "so"),)

WHERES = (
    ("at hall", ("at", "hall")),
    ("in box", ("in", "box")),
    ("on desk", ("on", "desk")),
    ("with you", ("with",)),
    ("nowhere", ("nowhere",)),
)

CONDITIONS = (
    ("mood is 0", (False, "is", "mood", 0)),
    ("mood is 9", (False, "is", "mood", 9)),
    ("lamp at hall", (False, "at", "lamp", "hall")),
    ("lamp in box", (False, "in", "lamp", "box")),
    ("lamp on desk", (False, "on", "lamp", "desk")),
    ("lamp with you", (False, "with", "lamp", "")),
    ("lamp nowhere", (False, "nowhere", "lamp", "")),
    ("box open", (False, "open", "box", "")),
    ("cap worn", (False, "worn", "cap", "")),
    ("you at hall", (False, "you", "hall", "")),
    ("worn worn", (False, "worn", "worn", "")),
)

EFFECTS = (
    ("say a", ("say", "a")),
    ("say one two three four five six", ("say", "one two three four five six")),
    ("say set mood move lamp stop say", ("say", "set mood move lamp stop say")),
    ("say always any you with not", ("say", "always any you with not")),
    ("set mood 0", ("set", "mood", 0)),
    ("set mood 9", ("set", "mood", 9)),
    ("move lamp at hall", ("move", "lamp", ("at", "hall"))),
    ("move lamp in box", ("move", "lamp", ("in", "box"))),
    ("move lamp on desk", ("move", "lamp", ("on", "desk"))),
    ("move lamp with you", ("move", "lamp", ("with",))),
    ("move lamp nowhere", ("move", "lamp", ("nowhere",))),
)


class ThereAndBack(unittest.TestCase):
    def check_rows(self, name, pairs):
        """Rows of one sort, with what they tell, behind a place."""
        rows = [told for _, told in pairs]
        texts = [text for text, _ in pairs]
        world = world_of(**{name: rows})
        text = "\n".join(texts if name == "places" else ["place hall", *texts])
        self.assertEqual(world_text(world), text)
        self.assertEqual(read_world(text).told(), world.told())

    def check_row(self, name, text, told):
        with self.subTest(text=text):
            self.check_rows(name, [(text, told)])


class TestRows(ThereAndBack):
    def test_a_whole_world(self):
        self.assertEqual(world_text(house()), HOUSE_TEXT)
        self.assertEqual(read_world(HOUSE_TEXT).told(), HOUSE_LISTS)

    def test_read_gives_a_world_of_tuples(self):
        made = read_world(HOUSE_TEXT)
        self.assertIs(type(made), World)
        for place in made.told()[0]:
            self.assertIs(type(place[1]), bool)
        for thing in made.told()[1]:
            self.assertEqual([type(thing[at]) for at in (2, 3, 4)], [tuple, tuple, tuple])
        for rule in made.told()[4]:
            self.assertEqual([type(rule[at]) for at in (3, 4)], [tuple, tuple])
            for condition in rule[3]:
                self.assertIs(type(condition), tuple)
                self.assertIs(type(condition[0]), bool)

    def test_writing_changes_nothing(self):
        made = house()
        world_text(made)
        self.assertEqual(made.told(), HOUSE_LISTS)

    def test_one_place_alone(self):
        self.assertEqual(world_text(world_of()), "place hall")
        self.assertEqual(read_world("place hall").told(), ([("hall", False)], [], [], [], [], [], [], []))

    def test_places(self):
        self.check_row("places", "place hall", ("hall", False))
        self.check_row("places", "place hall dark", ("hall", True))
        self.check_row("places", "place dark", ("dark", False))
        self.check_row("places", "place dark dark", ("dark", True))

    def test_adjectives(self):
        self.check_row("things", "thing a b : nowhere", ("a", "b", (), ("nowhere",), ()))
        self.check_row("things", "thing a b c : nowhere", ("a", "b", ("c",), ("nowhere",), ()))
        self.check_row("things", "thing a b d c : nowhere", ("a", "b", ("d", "c"), ("nowhere",), ()))
        self.check_row("things", "thing a a a b : nowhere", ("a", "a", ("a", "b"), ("nowhere",), ()))

    def test_wheres_of_things(self):
        for text, where in WHERES:
            self.check_row("things", f"thing a b : {text}", ("a", "b", (), where, ()))
            self.check_row("things", f"thing a b : {text} lit", ("a", "b", (), where, ("lit",)))

    def test_traits(self):
        for trait in TRAITS:
            self.check_row("things", f"thing a b : at hall {trait}", ("a", "b", (), ("at", "hall"), (trait,)))
        for at in range(len(TRAITS)):
            traits = TRAITS[at:]
            self.check_row("things", "thing a b : nowhere " + " ".join(traits), ("a", "b", (), ("nowhere",), traits))

    def test_ways(self):
        for direction in ("down", "east", "north", "south", "up", "west"):
            self.check_row("ways", f"way hall {direction} hut", ("hall", direction, "hut", ""))
            self.check_row("ways", f"way hall {direction} hut by gate", ("hall", direction, "hut", "gate"))
        self.check_row("ways", "way by up by by by", ("by", "up", "by", "by"))
        self.check_row("ways", "way by up by", ("by", "up", "by", ""))

    def test_states(self):
        for number in range(10):
            self.check_row("states", f"state mood {number}", ("mood", number))

    def test_rules(self):
        for book in ("before", "instead", "after"):
            for verb in VERBS:
                self.check_row("rules", f"rule {book} {verb} any : always : say so", (book, verb, "", (), SAY))
                self.check_row("rules", f"rule {book} {verb} lamp : always : say so", (book, verb, "lamp", (), SAY))

    def test_everies(self):
        for number in range(1, 5):
            self.check_row("everies", f"every {number} : always : say so", (number, (), SAY))

    def test_scenes(self):
        self.check_row("scenes", "scene fog : always : always", ("fog", (), ()))
        self.check_row(
            "scenes", "scene fog : a open : not b open and c worn",
            ("fog", ((False, "open", "a", ""),), ((True, "open", "b", ""), (False, "worn", "c", ""))),
        )

    def test_ends(self):
        self.check_row("ends", "end won : always", ("won", ()))
        self.check_row("ends", "end won : not a open", ("won", ((True, "open", "a", ""),)))

    def test_as_many_as_may_be(self):
        letters = "abcdefghijklmnop"
        self.check_rows("places", [(f"place {sign} dark", (sign, True)) for sign in letters[:8]])
        things = [(sign, "b", (), ("nowhere",), ()) for sign in letters[:12]]
        self.check_rows("things", [(f"thing {thing[0]} b : nowhere", thing) for thing in things])
        self.check_rows("ways", [(f"way {sign} up b", (sign, "up", "b", "")) for sign in letters])
        self.check_rows("states", [(f"state {sign} 5", (sign, 5)) for sign in letters[:6]])
        rules = [("after", "go", sign, (), SAY) for sign in letters]
        self.check_rows("rules", [(f"rule after go {rule[2]} : always : say so", rule) for rule in rules])
        self.check_rows("everies", [(f"every {number} : always : say so", (number, (), SAY)) for number in (3, 3)])
        self.check_rows("scenes", [(f"scene {sign} : always : always", (sign, (), ())) for sign in letters[:4]])
        self.check_rows("ends", [(f"end {sign} : always", (sign, ())) for sign in letters[:4]])

    def test_names_that_mean_something_in_a_row(self):
        for name in ("place", "thing", "way", "state", "rule", "every", "scene", "end", "by", "dark", "before", "worn"):
            self.check_row("places", f"place {name}", (name, False))
            self.check_row("ends", f"end {name} : {name} worn", (name, ((False, "worn", name, ""),)))


class TestConditions(ThereAndBack):
    def test_each_sort_with_and_without_not(self):
        for text, told in CONDITIONS:
            self.check_row("ends", f"end won : {text}", ("won", (told,)))
            self.check_row("ends", f"end won : not {text}", ("won", ((True, *told[1:]),)))

    def test_one_to_four(self):
        for many in range(1, 5):
            for at in range(0, len(CONDITIONS) - many + 1, many):
                pairs = CONDITIONS[at:at + many]
                text = " and ".join([text for text, _ in pairs])
                told = tuple([told for _, told in pairs])
                self.check_row("ends", f"end won : {text}", ("won", told))
                self.check_row("everies", f"every 1 : {text} : say so", (1, told, SAY))
                self.check_row("scenes", f"scene fog : {text} : always", ("fog", told, ()))
                self.check_row("scenes", f"scene fog : always : {text}", ("fog", (), told))
                self.check_row("rules", f"rule after wait any : {text} : say so", ("after", "wait", "", told, SAY))


class TestEffects(ThereAndBack):
    def test_each_sort(self):
        for text, told in EFFECTS:
            for book in ("before", "instead", "after"):
                self.check_row("rules", f"rule {book} wait any : always : {text}", (book, "wait", "", (), (told,)))
            self.check_row("everies", f"every 2 : always : {text}", (2, (), (told,)))

    def test_one_to_four(self):
        for many in range(1, 5):
            for at in range(0, len(EFFECTS) - many + 1, many):
                pairs = EFFECTS[at:at + many]
                text = " and ".join([text for text, _ in pairs])
                told = tuple([told for _, told in pairs])
                self.check_row("rules", f"rule after wait any : always : {text}", ("after", "wait", "", (), told))
                self.check_row("everies", f"every 2 : always : {text}", (2, (), told))

    def test_stop_in_before_rules(self):
        stop = ("stop",)
        self.check_row("rules", "rule before wait any : always : stop", ("before", "wait", "", (), (stop,)))
        self.check_row(
            "rules", "rule before wait any : always : stop and say so and stop and stop",
            ("before", "wait", "", (), (stop, ("say", "so"), stop, stop)),
        )

    def test_say_takes_as_many_words_as_stand_there(self):
        said = (("say", "say say"), ("say", "stop"))
        self.check_row("everies", "every 1 : always : say say say and say stop", (1, (), said))


class TestNames(unittest.TestCase):
    def test_each_function_is_defined_in_its_file(self):
        self.assertEqual(world_text.__module__, "worldtale.worldtext")
        self.assertEqual(read_world.__module__, "worldtale.worldread")

    def test_samples_name_all_lists(self):
        self.assertEqual(len(NAMES), len(HOUSE_LISTS))


if __name__ == "__main__":
    unittest.main()
