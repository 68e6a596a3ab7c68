"""Point 41: what the words of a line fit."""

import itertools
import unittest

from tests.samples import house, world_of
from worldtale.errors import OutOfPlace
from worldtale.looking import look_through
from worldtale.phrases import fits_answer, fits_noun, known_words, seen_fits
from worldtale.state import State

LAMPS = [
    ("one", "lamp", ("red", "old"), ("at", "hall"), ("lit",)),
    ("two", "lamp", ("old",), ("with",), ()),
    ("three", "red", ("lamp",), ("at", "hut"), ()),
    ("four", "red", ("red", "old"), ("at", "hall"), ()),
    ("five", "lamp", (), ("in", "six"), ()),
    ("six", "box", ("old", "big"), ("at", "hall"), ("box", "clear", "shut")),
]
NAMES = [row[0] for row in LAMPS]


def lamps():
    made = world_of(places=[("hall", True), ("hut", False)], things=list(LAMPS))
    look_through(made)
    return made


class TestKnownWords(unittest.TestCase):
    def test_rising_each_once(self):
        self.assertEqual(known_words(lamps()), ["big", "box", "lamp", "old", "red"])
        self.assertEqual(
            known_words(house()),
            ["big", "box", "cap", "coin", "cup", "door", "ghost", "iron", "lamp", "old", "red", "small", "table"],
        )
        self.assertEqual(known_words(world_of()), [])

    def test_the_asker_s_own(self):
        made = lamps()
        found = known_words(made)
        self.assertIs(type(found), list)
        found.clear()
        self.assertEqual(known_words(made), ["big", "box", "lamp", "old", "red"])


class TestFitsNoun(unittest.TestCase):
    def fitting(self, *noun):
        made = lamps()
        told = made.told()
        found = [fits_noun(made, name, noun) for name in NAMES]
        self.assertEqual(made.told(), told)
        self.assertTrue(all([isinstance(fits, bool) for fits in found]))
        return [name for name, fits in zip(NAMES, found) if fits]

    def test_the_last_word_is_the_noun(self):
        self.assertEqual(self.fitting("lamp"), ["one", "two", "five"])
        self.assertEqual(self.fitting("red"), ["three", "four"])
        self.assertEqual(self.fitting("old"), [])
        self.assertEqual(self.fitting("box"), ["six"])
        self.assertEqual(self.fitting("six"), [])
        self.assertEqual(self.fitting("hat"), [])

    def test_each_word_ahead_is_an_adjective(self):
        self.assertEqual(self.fitting("old", "lamp"), ["one", "two"])
        self.assertEqual(self.fitting("red", "lamp"), ["one"])
        self.assertEqual(self.fitting("red", "old", "lamp"), ["one"])
        self.assertEqual(self.fitting("old", "red", "lamp"), ["one"])
        self.assertEqual(self.fitting("big", "lamp"), [])
        self.assertEqual(self.fitting("old", "big", "lamp"), [])
        self.assertEqual(self.fitting("big", "old", "lamp"), [])
        self.assertEqual(self.fitting("lamp", "old"), [])

    def test_a_word_that_is_noun_and_adjective(self):
        self.assertEqual(self.fitting("lamp", "red"), ["three"])
        self.assertEqual(self.fitting("red", "red"), ["four"])
        self.assertEqual(self.fitting("lamp", "lamp"), [])


class TestFitsAnswer(unittest.TestCase):
    def fitting(self, *words):
        made = lamps()
        told = made.told()
        found = [fits_answer(made, name, words) for name in NAMES]
        self.assertEqual(made.told(), told)
        self.assertTrue(all([isinstance(fits, bool) for fits in found]))
        return [name for name, fits in zip(NAMES, found) if fits]

    def test_the_last_word_may_be_an_adjective(self):
        self.assertEqual(self.fitting("lamp"), ["one", "two", "three", "five"])
        self.assertEqual(self.fitting("red"), ["one", "three", "four"])
        self.assertEqual(self.fitting("old"), ["one", "two", "four", "six"])
        self.assertEqual(self.fitting("red", "old"), ["one", "four"])
        self.assertEqual(self.fitting("old", "red"), ["one", "four"])
        self.assertEqual(self.fitting("old", "lamp"), ["one", "two"])
        self.assertEqual(self.fitting("hat"), [])

    def test_an_adjective_twice(self):
        self.assertEqual(self.fitting("old", "old"), ["one", "two", "four", "six"])
        self.assertEqual(self.fitting("big", "big", "old", "big"), ["six"])
        self.assertEqual(self.fitting("old", "old", "lamp"), ["one", "two"])

    def test_words_ahead_are_adjectives_alone(self):
        self.assertEqual(self.fitting("box", "old"), [])
        self.assertEqual(self.fitting("lamp", "old"), [])
        self.assertEqual(self.fitting("lamp", "lamp"), ["three"])
        self.assertEqual(self.fitting("hat", "old"), [])

    def test_what_fits_a_noun_fits_an_answer(self):
        made = lamps()
        for words in itertools.product(("lamp", "red", "old"), repeat=3):
            for name in NAMES:
                if fits_noun(made, name, words):
                    self.assertTrue(fits_answer(made, name, words))


class TestSeenFits(unittest.TestCase):
    def test_seen_things_in_the_world_s_order(self):
        state = State(lamps())
        self.assertEqual(seen_fits(state, ("lamp",)), ["one", "two", "five"])
        self.assertEqual(seen_fits(state, ("old", "lamp")), ["one", "two"])
        self.assertEqual(seen_fits(state, ("red",)), ["four"])
        self.assertEqual(seen_fits(state, ("old",)), [])

    def test_what_is_not_seen(self):
        state = State(lamps())
        state.move_thing("one", ("nowhere",))
        self.assertEqual(seen_fits(state, ("lamp",)), ["two"])
        state.go_to("hut")
        self.assertEqual(seen_fits(state, ("red",)), ["three"])
        self.assertEqual(seen_fits(state, ("box",)), [])

    def test_the_asker_s_own(self):
        state = State(lamps())
        before = state.told()
        found = seen_fits(state, ("lamp",))
        self.assertIs(type(found), list)
        found.clear()
        self.assertEqual(seen_fits(state, ("lamp",)), ["one", "two", "five"])
        self.assertEqual(state.told(), before)


class TestWhatIsNotThere(unittest.TestCase):
    def test_names_that_are_not_there(self):
        for function in (fits_noun, fits_answer):
            for name in ("loft", "", "hall", None, [], 0):
                with self.assertRaises(OutOfPlace):
                    function(lamps(), name, ("lamp",))

    def test_each_function_is_in_its_file(self):
        for function in (known_words, fits_noun, fits_answer, seen_fits):
            self.assertEqual(function.__module__, "worldtale.phrases")


if __name__ == "__main__":
    unittest.main()
