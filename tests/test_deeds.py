"""Points 61 to 63: what deeds are about, by which word they are refused, and how they are done by the books."""

import unittest

from tests.samples import looked, manor
from worldtale import deeds
from worldtale.deeds import about_of, check_word, do_deed
from worldtale.reach import is_kept, root_of, seen_things
from worldtale.saying import look_lines
from worldtale.state import State

LINES = {
    "absent": "You see no such thing.", "held": "You have it.", "fixed": "It stays.", "far": "You can not reach it.",
    "unheld": "You do not hold it.", "worn": "You wear it.", "noholder": "Nothing goes there.", "closed": "It is shut.",
    "ring": "It can not hold itself.", "nolid": "It has no lid.", "opened": "It is open.", "nowear": "You can not wear it.",
    "unworn": "You do not wear it.", "noway": "No way there.",
}
OWN_LINES = {"take": "Taken.", "drop": "Dropped.", "put": "Done.", "open": "Opened.", "shut": "Shut.", "wear": "Worn.",
             "doff": "Doffed.", "wait": "Time goes by."}

# In the shut clear case things are seen, but kept; in the shut sack they are hidden.
YARD_ROWS = (
    "place yard",
    "place loft dark",
    "place shed",
    "thing case case : at yard box clear shut",
    "thing coin coin : in case wear",
    "thing rock rock : in case fixed",
    "thing tin tin : in case box shut",
    "thing pot pot : in case box",
    "thing rack rack : in case stand",
    "thing sack sack : with you box shut",
    "thing bag bag : with you box wear",
    "thing pin pin : in bag",
    "thing anchor anchor : with you fixed",
    "thing bench bench : at yard stand",
    "thing gate gate : nowhere door shut",
)
YARD_WAYS = ("way yard up loft", "way yard west shed by gate", "way shed east yard by gate", "way loft down yard")


def yard(*rows):
    return State(looked(*YARD_ROWS, *YARD_WAYS, *rows))


def deed(text):
    """A deed told by its words: a verb, what, link and holder."""
    words = text.split()
    return (*words, *[""] * (4 - len(words)))


class Doing(unittest.TestCase):
    def about(self, state, text):
        before = state.told()
        found = about_of(state.told_world(), state, deed(text))
        self.assertEqual(state.told(), before)
        return found

    def word(self, state, text):
        before = state.told()
        found = check_word(state.told_world(), state, deed(text))
        self.assertEqual(state.told(), before)
        self.assertIs(type(found), str)
        return found

    def do(self, state, text):
        found = do_deed(state.told_world(), state, deed(text))
        self.assertIs(type(found), tuple)
        self.assertIs(type(found[0]), list)
        self.assertIs(type(found[1]), bool)
        return found


class TestAbout(Doing):
    def test_things_and_waiting(self):
        state = yard()
        for verb in ("take", "drop", "open", "shut", "wear", "doff"):
            self.assertEqual(self.about(state, f"{verb} coin"), "coin")
        self.assertEqual(self.about(state, "put coin in case"), "coin")
        self.assertEqual(self.about(state, "put pin on bench"), "pin")
        self.assertEqual(self.about(state, "wait"), "")

    def test_going(self):
        state = yard()
        self.assertEqual(self.about(state, "go up"), "loft")
        self.assertEqual(self.about(state, "go west"), "shed")
        self.assertEqual(self.about(state, "go east"), "")
        self.assertEqual(self.about(state, "go down"), "")
        state.go_to("shed")
        self.assertEqual(self.about(state, "go east"), "yard")
        self.assertEqual(self.about(state, "go west"), "")
        state.go_to("loft")
        self.assertEqual(self.about(state, "go down"), "yard")

    def test_each_function_is_in_its_file(self):
        for name in ("about_of", "check_word", "do_deed"):
            self.assertEqual(getattr(deeds, name).__module__, "worldtale.deeds")


class TestCheckWord(Doing):
    def refused(self, state, text, word):
        """By this word, with its line, changing nothing; by none where it is empty."""
        with self.subTest(text=text, state=state.told()):
            self.assertEqual(self.word(state, text), word)
            if word != "":
                before = state.told()
                self.assertEqual(self.do(state, text), ([LINES[word]], False))
                self.assertEqual(state.told(), before)

    def test_waiting(self):
        self.refused(yard(), "wait", "")

    def test_going(self):
        state = yard()
        self.refused(state, "go up", "")
        self.refused(state, "go west", "closed")
        for direction in ("down", "east", "north", "south"):
            self.refused(state, f"go {direction}", "noway")
        state.go_to("shed")
        self.refused(state, "go east", "closed")
        self.refused(state, "go west", "noway")
        state.set_open("gate", True)
        self.refused(state, "go east", "")
        state.go_to("yard")
        self.refused(state, "go west", "")

    def test_going_out_of_the_dark(self):
        state = yard()
        state.go_to("loft")
        self.refused(state, "go down", "")
        self.refused(state, "go up", "noway")

    def test_absent_is_the_first(self):
        state = yard()
        state.move_thing("pin", ("in", "sack"))
        state.move_thing("bench", ("at", "shed"))
        for thing in ("pin", "bench"):
            for verb in ("take", "drop", "open", "shut", "wear", "doff"):
                self.refused(state, f"{verb} {thing}", "absent")
            for text in (f"put {thing} in bag", f"put {thing} on bench", f"put sack in {thing}", f"put rock on {thing}",
                         f"put {thing} in {thing}"):
                self.refused(state, text, "absent")

    def test_absent_in_the_dark(self):
        state = yard()
        state.move_thing("rock", ("at", "loft"))
        state.go_to("loft")
        self.refused(state, "take rock", "absent")
        self.refused(state, "take case", "absent")
        self.refused(state, "put bag in case", "absent")
        self.refused(state, "drop bag", "")
        self.refused(state, "put sack in bag", "")

    def test_doors_are_seen_from_both_sides(self):
        state = yard()
        for place in ("yard", "shed"):
            state.go_to(place)
            self.refused(state, "take gate", "fixed")
            self.refused(state, "drop gate", "unheld")
            self.refused(state, "put bag in gate", "noholder")
            self.refused(state, "put bag on gate", "noholder")
            self.refused(state, "put gate in bag", "unheld")
            self.refused(state, "wear gate", "nowear")
            self.refused(state, "doff gate", "unworn")
            self.refused(state, "shut gate", "closed")
            self.refused(state, "open gate", "")
        state.set_open("gate", True)
        self.refused(state, "open gate", "opened")
        self.refused(state, "shut gate", "")
        state.go_to("loft")
        self.refused(state, "shut gate", "absent")
        self.refused(state, "take gate", "absent")

    def test_take(self):
        state = yard()
        self.refused(state, "take bench", "")
        self.refused(state, "take case", "")
        self.refused(state, "take bag", "held")
        self.refused(state, "take pin", "held")
        self.refused(state, "take anchor", "held")
        self.refused(state, "take rock", "fixed")
        self.refused(state, "take coin", "far")
        state.set_open("case", True)
        self.refused(state, "take coin", "")
        self.refused(state, "take rock", "fixed")
        state.set_open("case", False)
        state.move_thing("case", ("with",))
        self.refused(state, "take coin", "held")
        self.refused(state, "take rock", "held")

    def test_drop(self):
        state = yard()
        self.refused(state, "drop bag", "")
        self.refused(state, "drop anchor", "")
        self.refused(state, "drop pin", "unheld")
        self.refused(state, "drop bench", "unheld")
        self.refused(state, "drop coin", "unheld")
        state.set_worn("bag", True)
        self.refused(state, "drop bag", "worn")
        self.refused(state, "drop pin", "unheld")

    def test_put(self):
        state = yard()
        self.refused(state, "put sack in bag", "")
        self.refused(state, "put sack on bench", "")
        self.refused(state, "put pin on bench", "unheld")
        self.refused(state, "put coin in coin", "unheld")
        self.refused(state, "put bench on bench", "unheld")
        self.refused(state, "put bag in bench", "noholder")
        self.refused(state, "put bag on sack", "noholder")
        self.refused(state, "put bag on bag", "noholder")
        self.refused(state, "put bag in coin", "noholder")
        self.refused(state, "put bag on rack", "far")
        self.refused(state, "put bag in tin", "far")
        self.refused(state, "put bag in pot", "far")
        self.refused(state, "put bag in case", "closed")
        self.refused(state, "put bag in sack", "closed")
        self.refused(state, "put sack in sack", "closed")
        self.refused(state, "put bag in bag", "ring")
        state.set_worn("bag", True)
        self.refused(state, "put bag in case", "worn")
        self.refused(state, "put bag in coin", "worn")
        self.refused(state, "put bag in bag", "worn")

    def test_put_in_and_on_what_is_within(self):
        state = yard()
        state.set_open("case", True)
        state.move_thing("case", ("with",))
        self.refused(state, "put case in pot", "ring")
        self.refused(state, "put case on rack", "ring")
        self.refused(state, "put case in tin", "closed")
        self.refused(state, "put case in bag", "")
        state.move_thing("pot", ("on", "rack"))
        self.refused(state, "put case in pot", "ring")
        self.refused(state, "put anchor in pot", "")
        self.refused(state, "put anchor on rack", "")
        state.move_thing("bag", ("in", "case"))
        self.refused(state, "put case in bag", "ring")
        state.set_open("case", False)
        self.refused(state, "put case in pot", "far")
        self.refused(state, "put case in bag", "far")
        self.refused(state, "put case in case", "closed")

    def test_open(self):
        state = yard()
        for thing in ("case", "sack", "gate"):
            self.refused(state, f"open {thing}", "")
        for thing in ("bench", "anchor", "coin", "rack", "pin"):
            self.refused(state, f"open {thing}", "nolid")
        self.refused(state, "open tin", "far")
        self.refused(state, "open pot", "far")
        self.refused(state, "open bag", "opened")
        state.set_open("case", True)
        self.refused(state, "open tin", "")
        self.refused(state, "open pot", "opened")

    def test_shut(self):
        state = yard()
        self.refused(state, "shut bag", "")
        for thing in ("bench", "anchor", "coin", "rack", "pin"):
            self.refused(state, f"shut {thing}", "nolid")
        self.refused(state, "shut tin", "far")
        self.refused(state, "shut pot", "far")
        for thing in ("case", "sack", "gate"):
            self.refused(state, f"shut {thing}", "closed")
        state.set_open("case", True)
        self.refused(state, "shut tin", "closed")
        self.refused(state, "shut pot", "")

    def test_wear_and_doff(self):
        state = yard()
        self.refused(state, "wear bag", "")
        for thing in ("anchor", "bench", "rack", "case"):
            self.refused(state, f"wear {thing}", "nowear")
        self.refused(state, "wear coin", "unheld")
        for thing in ("bag", "anchor", "coin", "case"):
            self.refused(state, f"doff {thing}", "unworn")
        state.set_worn("bag", True)
        self.refused(state, "wear bag", "worn")
        self.refused(state, "doff bag", "")
        state.move_thing("coin", ("in", "bag"))
        self.refused(state, "wear coin", "unheld")


class TestPlainDeeds(Doing):
    def done(self, state, text):
        """Does a deed that isn't refused, with its own line."""
        self.assertEqual(self.word(state, text), "")
        lines, so = self.do(state, text)
        self.assertIs(so, True)
        if not text.startswith("go"):
            self.assertEqual(lines, [OWN_LINES[text.split()[0]]])
        return lines

    def test_take_and_drop(self):
        state = yard()
        self.done(state, "take bench")
        self.assertEqual(state.where("bench"), ("with",))
        state.go_to("loft")
        self.done(state, "drop bench")
        self.assertEqual(state.where("bench"), ("at", "loft"))

    def test_what_holds_goes_along(self):
        state = yard()
        self.done(state, "drop bag")
        self.assertEqual((state.where("bag"), state.where("pin")), (("at", "yard"), ("in", "bag")))
        self.done(state, "take pin")
        self.assertEqual(state.where("pin"), ("with",))

    def test_put(self):
        state = yard()
        self.done(state, "put sack in bag")
        self.assertEqual(state.where("sack"), ("in", "bag"))
        self.done(state, "put bag on bench")
        self.assertEqual((state.where("sack"), state.where("bag")), (("in", "bag"), ("on", "bench")))
        self.assertEqual(root_of(state, "sack"), ("at", "yard"))

    def test_open_and_shut(self):
        state = yard()
        for thing in ("case", "sack", "gate"):
            self.done(state, f"open {thing}")
            self.assertTrue(state.is_open(thing))
            self.done(state, f"shut {thing}")
            self.assertFalse(state.is_open(thing))
        self.assertTrue(is_kept(state, "coin"))

    def test_wear_and_doff(self):
        state = yard()
        self.done(state, "wear bag")
        self.assertTrue(state.is_worn("bag"))
        self.done(state, "doff bag")
        self.assertFalse(state.is_worn("bag"))
        self.assertEqual(state.where("bag"), ("with",))

    def test_go_tells_what_looking_tells(self):
        state = yard()
        self.assertEqual(self.done(state, "go up"), ["It is dark."])
        self.assertEqual(state.here(), "loft")
        self.assertEqual(self.done(state, "go down"), look_lines(state.told_world(), state))
        state.set_open("gate", True)
        self.assertEqual(self.done(state, "go west"), ["shed.", "Ways: east.", "Here: a gate.", "In the bag: a pin."])
        self.assertEqual(state.here(), "shed")

    def test_wait(self):
        state = yard()
        before = state.told()
        self.done(state, "wait")
        self.assertEqual(state.told(), before)

    def test_no_deed_is_a_turn_by_itself(self):
        state = yard()
        for text in ("take bench", "go up", "wait"):
            self.done(state, text)
        self.assertEqual(state.turn(), 0)

    def test_the_asker_s_own(self):
        state = yard()
        self.do(state, "wait")[0].clear()
        self.assertEqual(self.do(state, "wait")[0], ["Time goes by."])


class TestBooks(Doing):
    def test_before_rules_one_after_another(self):
        state = yard(
            "state luck 0",
            "rule before take any : luck is 2 : say three",
            "rule before take bench : luck is 0 : say one and set luck 1",
            "rule before take bench : luck is 1 : say two and set luck 2",
            "rule before take bench : luck is 0 : say never",
            "rule before take coin : always : say other",
            "rule before drop any : always : say other",
        )
        self.assertEqual(self.do(state, "take bench"), (["one", "two", "three", "Taken."], True))
        self.assertEqual((state.number_of("luck"), state.where("bench")), (2, ("with",)))

    def test_a_stop_ends_the_deed(self):
        state = yard(
            "state luck 0",
            "rule before take bench : always : say one and set luck 4 and stop and set luck 5",
            "rule before take any : always : say never",
            "rule instead take bench : always : say never",
            "rule after take bench : always : say never",
        )
        # It isn't refused by this, not even where it would be by its check.
        self.assertEqual(self.do(state, "take bench"), (["one"], True))
        self.assertEqual((state.number_of("luck"), state.where("bench")), (4, ("at", "yard")))
        state = yard("rule before take anchor : always : stop")
        self.assertEqual(self.do(state, "take anchor"), ([], True))

    def test_a_stop_that_does_not_come(self):
        state = yard("state luck 0", "rule before wait any : luck is 1 : stop")
        self.assertEqual(self.do(state, "wait"), (["Time goes by."], True))
        state.set_number("luck", 1)
        self.assertEqual(self.do(state, "wait"), ([], True))

    def test_instead(self):
        state = yard(
            "state luck 0",
            "rule before take any : always : say hm",
            "rule instead take any : always : say any",
            "rule instead take bench : luck is 1 : say lucky",
            "rule instead take bench : luck is 0 : say no and set luck 1",
            "rule after take bench : always : say never",
        )
        self.assertEqual(self.do(state, "take bench"), (["hm", "no"], True))
        self.assertEqual(self.do(state, "take bench"), (["hm", "lucky"], True))
        self.assertEqual(self.do(state, "take case"), (["hm", "any"], True))
        # In the place of all else: also of its refusal.
        self.assertEqual(self.do(state, "take anchor"), (["hm", "any"], True))
        self.assertEqual(state.where("bench"), ("at", "yard"))
        self.assertEqual(state.where("case"), ("at", "yard"))

    def test_instead_by_what_before_rules_did(self):
        state = yard("state luck 0", "rule before wait any : always : set luck 1",
                     "rule instead wait any : luck is 1 : say now")
        self.assertEqual(self.do(state, "wait"), (["now"], True))
        self.assertEqual(self.do(yard("rule instead wait any : coin with you : say now"), "wait"), (["Time goes by."], True))

    def test_effects_ahead_of_a_refusal_stay_done(self):
        state = yard("state luck 0", "rule before take anchor : always : say heavy and set luck 3 and move pin at yard",
                     "rule after take anchor : always : say never")
        self.assertEqual(self.do(state, "take anchor"), (["heavy", LINES["held"]], False))
        self.assertEqual((state.number_of("luck"), state.where("pin")), (3, ("at", "yard")))

    def test_refusal_by_what_before_rules_did(self):
        state = yard("rule before take bench : always : move bench with you", "rule before take coin : always : move coin at yard")
        self.assertEqual(self.do(state, "take bench"), ([LINES["held"]], False))
        self.assertEqual(self.do(state, "take coin"), (["Taken."], True))

    def test_after(self):
        state = yard(
            "state luck 0",
            "rule before take bench : always : say ah",
            "rule after take any : bench with you : say any",
            "rule after take bench : not bench with you : say never",
            "rule after take bench : bench with you : say heavy and set luck 1 and say it is and move pin at loft",
            "rule after drop any : always : set luck 7",
        )
        self.assertEqual(self.do(state, "take bench"), (["ah", "heavy", "it is"], True))
        self.assertEqual((state.number_of("luck"), state.where("pin"), state.where("bench")),
                         (1, ("at", "loft"), ("with",)))
        self.assertEqual(self.do(state, "take case"), (["any"], True))
        # The lines are those of the rule, where these are none, too.
        self.assertEqual(self.do(state, "drop bench"), ([], True))
        self.assertEqual(state.number_of("luck"), 7)
        self.assertEqual(self.do(state, "take anchor"), ([LINES["held"]], False))

    def test_after_going(self):
        state = yard(
            "rule before go loft : you at yard : say up there",
            "rule after go loft : you at loft : say dusty",
            "rule after go yard : always : say back again",
            "rule after go any : always : say away",
        )
        self.assertEqual(self.do(state, "go up"), (["up there", "dusty"], True))
        self.assertEqual(self.do(state, "go down"), (["back again"], True))
        state.set_open("gate", True)
        self.assertEqual(self.do(state, "go west"), (["away"], True))
        self.assertEqual(state.here(), "shed")

    def test_rules_of_going_where_no_way_leads(self):
        state = yard("rule before go any : always : say off", "rule before go loft : always : say never")
        self.assertEqual(self.do(state, "go south"), (["off", LINES["noway"]], False))
        self.assertEqual(self.do(state, "go west"), (["off", LINES["closed"]], False))
        state = yard("rule instead go any : always : say stay", "rule instead go shed : always : say shed")
        self.assertEqual(self.do(state, "go south"), (["stay"], True))
        self.assertEqual(self.do(state, "go west"), (["shed"], True))
        self.assertEqual(state.here(), "yard")

    def test_rules_of_putting_are_about_the_thing(self):
        state = yard("rule after put bag : always : say bag", "rule after put bench : always : say never")
        self.assertEqual(self.do(state, "put bag on bench"), (["bag"], True))
        self.assertEqual(self.do(state, "put anchor on bench"), (["Done."], True))

    def test_each_verb_has_its_book(self):
        for text in ("take bench", "drop bag", "put bag on bench", "open case", "shut bag", "wear bag", "go up", "wait"):
            verb = text.split()[0]
            state = yard(*[f"rule before {other} any : always : say {other}s" for other in OWN_LINES if other != verb],
                         f"rule before {verb} any : always : say yes", f"rule after {verb} any : always : say done")
            self.assertEqual(self.do(state, text), (["yes", "done"], True))
        state = yard("rule instead doff any : always : say on it stays")
        state.set_worn("bag", True)
        self.assertEqual(self.do(state, "doff bag"), (["on it stays"], True))
        self.assertTrue(state.is_worn("bag"))

    def test_in_the_manor(self):
        state = State(manor())
        self.assertEqual(self.do(state, "take coin"), (["the coin glitters", LINES["far"]], False))
        self.assertEqual(state.number_of("luck"), 1)
        self.assertEqual(self.do(state, "go down"), (["brr"], True))
        self.assertNotIn("lamp", seen_things(state))


if __name__ == "__main__":
    unittest.main()
