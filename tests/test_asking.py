"""Points 52 and 53: talks, what is meant of each clause, questions and their answers."""

import unittest

from tests.samples import Alike, shop
from worldtale.asking import Talk
from worldtale.command import clauses_of
from worldtale.errors import BadCommand
from worldtale.state import State

NO_TEXTS = (None, True, False, 0, 1, [], ["look"], (), ("look",), {}, set(), b"look", object(), Alike())
LAMPS_ASKED = ("which", ["one", "three"])


def do(verb, *things, link="", holder=""):
    return ("do", [(verb, thing, link, holder) for thing in things])


class Asking(unittest.TestCase):
    def setUp(self):
        self.world = shop()
        self.state = State(self.world)
        self.talk = Talk(self.world)

    def mean(self, talk=None, state=None):
        """What is meant next, which changes nothing of the state."""
        state = self.state if state is None else state
        before = state.told()
        found = (self.talk if talk is None else talk).mean(state)
        self.assertEqual(state.told(), before)
        return found

    def all_of(self, line, talk=None):
        """All that is meant of a line, clause by clause."""
        talk = self.talk if talk is None else talk
        self.assertIsNone(talk.begin(line))
        found = []
        while (meant := self.mean(talk)) is not None:
            found.append(meant)
        return found

    def one_of(self, line, talk=None):
        found = self.all_of(line, talk)
        self.assertEqual(len(found), 1, found)
        return found[0]


class TestDeeds(Asking):
    def test_at_first(self):
        self.assertIsNone(self.mean())
        self.assertEqual(self.talk.told(), (None, [], []))

    def test_lone_verbs(self):
        for verb in ("look", "list", "wait", "undo"):
            self.assertEqual(self.all_of(verb), [("do", [(verb, "", "", "")])])
        self.assertEqual(self.talk.told(), (None, [], []))

    def test_going(self):
        for line in ("up", "go up"):
            self.assertEqual(self.all_of(line), [("do", [("go", "up", "", "")])])
        self.assertEqual(self.one_of("west"), ("do", [("go", "west", "", "")]))

    def test_nouns(self):
        self.assertEqual(self.one_of("take small lamp"), do("take", "three"))
        self.assertEqual(self.one_of("drop lamp"), do("drop", "two"))
        self.assertEqual(self.one_of("take small lamp and red and old box"), do("take", "three", "rose", "chest"))
        self.assertEqual(self.one_of("take door and small lamp"), do("take", "gate", "three"))

    def test_putting(self):
        self.assertEqual(self.one_of("put lamp in box"), do("put", "two", link="in", holder="chest"))
        self.assertEqual(self.one_of("put lamp and red cap on red tray"), do("put", "two", "cap", link="on", holder="tray"))
        self.assertEqual(self.one_of("put red box in box"), do("put", "bag", link="in", holder="chest"))

    def test_all(self):
        self.assertEqual(self.one_of("drop all"), do("drop", "two", "bag", "cap", "hat"))
        self.assertEqual(self.one_of("drop all but cap"), do("drop", "two", "bag"))
        self.assertEqual(self.one_of("drop all but red cap and red box and small lamp"), do("drop", "two", "hat"))
        self.assertEqual(self.one_of("put all in box"), do("put", "two", "bag", "cap", "hat", link="in", holder="chest"))
        self.assertEqual(self.one_of("put all in red box"), do("put", "two", "cap", "hat", link="in", holder="bag"))
        self.assertEqual(self.one_of("put all but lamp in red box"), do("put", "cap", "hat", link="in", holder="bag"))

    def test_several_clauses_one_by_one(self):
        self.talk.begin("drop lamp then look then up")
        self.assertEqual(self.mean(), do("drop", "two"))
        self.assertEqual(self.mean(), ("do", [("look", "", "", "")]))
        self.assertEqual(self.mean(), ("do", [("go", "up", "", "")]))
        self.assertIsNone(self.mean())
        self.assertIsNone(self.mean())

    def test_each_clause_by_the_state_as_it_is_then(self):
        self.talk.begin("drop lamp then drop lamp then take all")
        self.assertEqual(self.mean(), do("drop", "two"))
        self.state.move_thing("two", ("at", "hall"))
        self.state.move_thing("one", ("with",))
        self.assertEqual(self.mean(), do("drop", "one"))
        self.state.go_to("hut")
        self.assertEqual(self.mean(), ("nothing",))
        other = State(self.world)
        other.move_thing("three", ("with",))
        self.talk.begin("wait then drop red lamp")
        self.mean()
        self.assertEqual(self.mean(state=other), do("drop", "three"))

    def test_another_line_lets_go_what_waits(self):
        self.talk.begin("drop lamp then look then up")
        self.mean()
        self.assertEqual(self.all_of("wait"), [("do", [("wait", "", "", "")])])

    def test_the_asker_s_own(self):
        self.talk.begin("drop all")
        self.mean()[1].clear()
        self.assertEqual(self.talk.told()[1], ["two", "bag", "cap", "hat"])
        self.talk.told()[1].clear()
        self.assertEqual(self.talk.told()[1], ["two", "bag", "cap", "hat"])
        self.one_of("take lamp")[1].clear()
        self.talk.told()[2].clear()
        self.assertEqual(self.talk.told()[2], ["one", "three"])
        self.assertEqual(self.one_of("small"), do("take", "three"))

    def test_each_method_is_in_the_class(self):
        for name in ("begin", "mean", "told", "put_back", "let_go", "copied"):
            self.assertIn(name, vars(Talk))
        self.assertEqual(Talk.__module__, "worldtale.asking")
        self.assertIs(type(self.talk.told()), tuple)


class TestWords(Asking):
    def test_what_is_no_text(self):
        for line in NO_TEXTS:
            self.assertEqual(self.all_of(line), [("words", 0)])

    def test_words_as_a_bad_command_has_it(self):
        for line in ("", " ", "take  lamp", "lamp", "the lamp", "red", "take", "take the", "take red red lamp", "up up", "LOOK",
                     "take lamp then", "put lamp in", "take lamp7", " ".join(["look"] * 41), "look\nlook"):
            with self.assertRaises(BadCommand) as caught:
                clauses_of(line)
            self.assertEqual(self.all_of(line), [("words", caught.exception.word)], line)

    def test_none_of_its_clauses_is_meant(self):
        self.assertEqual(self.all_of("look then up then take"), [("words", 6)])

    def test_words_are_told_once(self):
        self.talk.begin("take")
        self.assertEqual(self.mean(), ("words", 2))
        self.assertIsNone(self.mean())

    def test_another_line_ahead_of_the_asking(self):
        self.talk.begin("take")
        self.assertEqual(self.all_of("look"), [("do", [("look", "", "", "")])])
        self.talk.begin("look then up")
        self.assertEqual(self.all_of("go"), [("words", 2)])

    def test_it_and_them_stay(self):
        self.all_of("drop all then drop lamp")
        for line in ("red", None, "take"):
            self.all_of(line)
            self.assertEqual(self.talk.told(), ("two", ["two", "bag", "cap", "hat"], []))


class TestUnknown(Asking):
    def test_the_first_word_that_no_thing_is_called_by(self):
        self.assertEqual(self.one_of("take cup"), ("unknown", "cup"))
        self.assertEqual(self.one_of("take blue lamp"), ("unknown", "blue"))
        self.assertEqual(self.one_of("take old blue cup"), ("unknown", "blue"))
        self.assertEqual(self.one_of("take lamp and blue cup and jar"), ("unknown", "blue"))
        self.assertEqual(self.one_of("take three"), ("unknown", "three"))
        self.assertEqual(self.one_of("take hall"), ("unknown", "hall"))

    def test_of_the_phrase_then_of_the_holder(self):
        self.assertEqual(self.one_of("put cup in jar"), ("unknown", "cup"))
        self.assertEqual(self.one_of("put lamp in jar"), ("unknown", "jar"))
        self.assertEqual(self.one_of("put it in blue box"), ("unknown", "blue"))
        self.assertEqual(self.one_of("put all but cup in jar"), ("unknown", "cup"))

    def test_behind_but(self):
        self.assertEqual(self.one_of("take all but cup"), ("unknown", "cup"))
        self.assertEqual(self.one_of("take all but lamp and blue box"), ("unknown", "blue"))

    def test_ahead_of_what_and_absent(self):
        self.assertEqual(self.one_of("put it in jar"), ("unknown", "jar"))
        self.assertEqual(self.one_of("put cup in it"), ("unknown", "cup"))
        self.assertEqual(self.one_of("put pin in jar"), ("unknown", "jar"))

    def test_a_known_word_in_a_wrong_place(self):
        self.assertEqual(self.one_of("take green"), ("absent", ("green",)))
        self.assertEqual(self.one_of("take lamp lamp"), ("absent", ("lamp", "lamp")))


class TestWhat(Asking):
    def test_the_phrase_then_the_holder(self):
        self.assertEqual(self.one_of("take it"), ("what", "it"))
        self.assertEqual(self.one_of("take them"), ("what", "them"))
        self.assertEqual(self.one_of("put them in it"), ("what", "them"))
        self.assertEqual(self.one_of("put it in it"), ("what", "it"))
        for phrase in ("lamp", "all", "all but lamp"):
            self.assertEqual(self.one_of(f"put {phrase} in it"), ("what", "it"))

    def test_one_of_them_means_something(self):
        self.all_of("drop lamp")
        self.assertEqual(self.one_of("put them in it"), ("what", "them"))
        self.assertEqual(self.one_of("take it"), do("take", "two"))
        talk = Talk(self.world)
        self.all_of("drop all", talk)
        self.assertEqual(self.one_of("put them in it", talk), ("what", "it"))
        self.assertEqual(self.one_of("put it in box", talk), ("what", "it"))

    def test_ahead_of_absent(self):
        self.assertEqual(self.one_of("put it in pin"), ("what", "it"))
        self.assertEqual(self.one_of("put pin in it"), ("what", "it"))


class TestAbsent(Asking):
    def test_the_first_noun_that_no_seen_thing_fits(self):
        self.assertEqual(self.one_of("take pin"), ("absent", ("pin",)))
        self.assertEqual(self.one_of("take lamp and small green lamp and pin"), ("absent", ("small", "green", "lamp")))
        self.assertEqual(self.one_of("put lamp in pin"), ("absent", ("pin",)))
        self.assertEqual(self.one_of("put pin in green box"), ("absent", ("pin",)))
        self.assertEqual(self.one_of("put all in the green box"), ("absent", ("green", "box")))
        self.state.go_to("hut")
        self.assertEqual(self.one_of("take red lamp"), ("absent", ("red", "lamp")))

    def test_not_of_those_behind_but(self):
        self.assertEqual(self.one_of("drop all but pin"), do("drop", "two", "bag", "cap", "hat"))
        self.assertEqual(self.one_of("put all but pin in green box"), ("absent", ("green", "box")))

    def test_the_last_noun_where_there_is_no_reading(self):
        self.assertEqual(self.one_of("take small lamp and red small lamp"), ("absent", ("red", "small", "lamp")))
        self.assertEqual(self.one_of("put red box in red box"), ("absent", ("red", "box")))
        self.assertEqual(self.one_of("put cap and hat in box"), ("unknown", "hat"))
        self.assertEqual(self.one_of("put cap and cap and cap in red box"), ("absent", ("red", "box")))
        self.assertEqual(self.one_of("take cap and cap and red cap"), ("absent", ("red", "cap")))

    def test_the_last_noun_ahead_of_an_it(self):
        self.all_of("drop lamp")
        self.assertEqual(self.one_of("put green old lamp in it"), ("absent", ("green", "old", "lamp")))
        self.assertEqual(self.one_of("put cap and green lamp in it"), ("absent", ("green", "lamp")))


class TestWhich(Asking):
    def test_of_several(self):
        self.assertEqual(self.one_of("take lamp"), LAMPS_ASKED)
        self.assertEqual(self.talk.told(), (None, [], ["one", "three"]))
        self.assertIsNone(self.mean())
        self.assertEqual(self.talk.told(), (None, [], ["one", "three"]))

    def test_the_first_place_at_which_they_differ(self):
        self.assertEqual(self.one_of("take green lamp and lamp"), LAMPS_ASKED)
        self.assertEqual(self.one_of("put lamp on tray"), ("which", ["tray", "shelf"]))
        self.assertEqual(self.one_of("wear lamp and cap"), ("which", ["cap", "hat"]))
        self.assertEqual(self.one_of("take lamp and red lamp"), LAMPS_ASKED)
        self.assertEqual(self.one_of("open lamp and lamp"), ("which", ["one", "two", "three"]))
        self.assertEqual(self.one_of("put all on tray"), ("which", ["tray", "shelf"]))

    def test_ahead_of_nothing(self):
        self.state.set_open("bag", False)
        for name in ("two", "bag", "cap", "hat"):
            self.state.move_thing(name, ("at", "hall"))
        self.assertEqual(self.one_of("put all on tray"), ("which", ["tray", "shelf"]))
        self.assertEqual(self.one_of("red tray"), ("nothing",))

    def test_it_and_them_stay(self):
        self.all_of("drop all then drop lamp")
        self.one_of("take lamp")
        self.assertEqual(self.talk.told(), ("two", ["two", "bag", "cap", "hat"], ["one", "three"]))


class TestNothing(Asking):
    def test_all_and_there_are_none(self):
        self.assertEqual(self.one_of("doff all"), ("nothing",))
        self.assertEqual(self.one_of("shut all but box"), ("nothing",))
        self.assertEqual(self.one_of("put all but lamp and cap in red box"), ("nothing",))
        self.assertEqual(self.talk.told(), (None, [], []))
        self.assertEqual(self.one_of("shut all"), do("shut", "chest"))


class TestItAndThem(Asking):
    def test_it_is_the_one_thing(self):
        self.one_of("drop lamp")
        self.assertEqual(self.talk.told(), ("two", [], []))
        self.one_of("take small lamp")
        self.assertEqual(self.talk.told(), ("three", [], []))
        self.one_of("shut all")
        self.assertEqual(self.talk.told(), ("chest", [], []))

    def test_them_are_the_several_in_their_order(self):
        self.one_of("take red and small lamp and old box")
        self.assertEqual(self.talk.told(), (None, ["rose", "three", "chest"], []))
        self.one_of("drop all but cap")
        self.assertEqual(self.talk.told(), (None, ["two", "bag"], []))

    def test_both_stay_of_none(self):
        self.all_of("drop all then drop lamp")
        for line in ("look", "list", "wait", "undo", "up", "go down"):
            self.one_of(line)
            self.assertEqual(self.talk.told(), ("two", ["two", "bag", "cap", "hat"], []))

    def test_the_holder_is_none_of_them(self):
        self.one_of("put lamp in box")
        self.assertEqual(self.talk.told(), ("two", [], []))
        self.one_of("put all in box")
        self.assertEqual(self.talk.told(), ("two", ["two", "bag", "cap", "hat"], []))

    def test_they_are_meant_wherever_they_are(self):
        self.all_of("drop all then drop lamp")
        self.state.move_thing("two", ("nowhere",))
        self.state.move_thing("cap", ("in", "bag"))
        self.assertEqual(self.one_of("take it"), do("take", "two"))
        self.assertEqual(self.one_of("take them"), do("take", "two", "bag", "cap", "hat"))
        self.assertEqual(self.one_of("put small lamp in it"), do("put", "three", link="in", holder="two"))

    def test_them_twice(self):
        self.one_of("take red and small lamp")
        self.assertEqual(self.one_of("put them in box"), do("put", "rose", "three", link="in", holder="chest"))
        self.assertEqual(self.one_of("drop them"), do("drop", "rose", "three"))
        self.assertEqual(self.talk.told(), (None, ["rose", "three"], []))

    def test_it_amid_a_line(self):
        self.assertEqual(
            self.all_of("drop lamp then take it then put it in it then shut all then put them in it"),
            [do("drop", "two"), do("take", "two"), do("put", "two", link="in", holder="two"), do("shut", "chest"),
             ("what", "them")],
        )

    def test_it_as_a_holder_of_several(self):
        self.all_of("shut all")
        self.assertEqual(self.one_of("put it in it"), do("put", "chest", link="in", holder="chest"))
        self.assertEqual(self.one_of("put lamp and cap in it"), ("which", ["cap", "hat"]))
        self.assertEqual(self.one_of("put all in it"), do("put", "two", "bag", "cap", "hat", link="in", holder="chest"))
        self.assertEqual(self.one_of("put them in it"), do("put", "two", "bag", "cap", "hat", link="in", holder="chest"))
        self.assertEqual(self.talk.told()[0], "chest")


class TestAnswers(Asking):
    def test_by_adjectives_and_nouns(self):
        for answer in ("small", "the small", "small lamp", "the small lamp", "red small", "small red lamp", "small small",
                       "the red red small", "small red small lamp"):
            self.one_of("take lamp")
            self.assertEqual(self.all_of(answer), [do("take", "three")], answer)
            self.assertEqual(self.talk.told(), ("three", [], []))

    def test_answers_that_fit_several_ask_again(self):
        self.assertEqual(self.one_of("take lamp"), LAMPS_ASKED)
        for answer in ("red", "lamp", "the red lamp", "red red"):
            self.assertEqual(self.one_of(answer), LAMPS_ASKED)
            self.assertEqual(self.talk.told(), (None, [], ["one", "three"]))
        self.assertEqual(self.one_of("old"), do("take", "one"))

    def test_the_question_stands_no_more_once_answered(self):
        self.one_of("take lamp")
        self.talk.begin("red")
        self.assertEqual(self.talk.told(), (None, [], []))
        self.assertEqual(self.all_of("small"), [("words", 1)])
        self.one_of("take lamp")
        self.one_of("small")
        self.assertEqual(self.one_of("small"), ("words", 1))

    def test_answers_that_fit_nothing(self):
        for answer in ("green", "cap", "cup", "small cap", "lamp red", "old small", "the", "the the small", "it", "small it",
                       "the red red red red small", "red red red red small", "small  lamp", "small ", " small", "Small"):
            self.assertEqual(self.one_of("take lamp"), LAMPS_ASKED)
            self.assertEqual(self.one_of(answer)[0], "words", answer)
            self.assertEqual(self.talk.told(), (None, [], []))
            self.assertEqual(self.one_of("small"), ("words", 1))

    def test_the_most_words_of_an_answer(self):
        for answer in ("red red red small", "the red red red small", "red small red lamp"):
            self.one_of("take lamp")
            self.assertEqual(self.one_of(answer), do("take", "three"))

    def test_what_is_no_text(self):
        for line in NO_TEXTS:
            self.one_of("take lamp")
            self.assertEqual(self.one_of(line), ("words", 0))
            self.assertEqual(self.talk.told(), (None, [], []))

    def test_a_new_line_lets_the_question_go(self):
        self.one_of("take lamp")
        self.assertEqual(self.all_of("look then wait"), [("do", [("look", "", "", "")]), ("do", [("wait", "", "", "")])])
        self.assertEqual(self.talk.told(), (None, [], []))
        self.one_of("take lamp")
        self.assertEqual(self.one_of("wear cap"), ("which", ["cap", "hat"]))
        self.assertEqual(self.one_of("red"), do("wear", "cap"))

    def test_a_question_is_let_go_when_the_line_begins(self):
        self.one_of("take lamp")
        self.talk.begin("look")
        self.assertEqual(self.talk.told(), (None, [], []))

    def test_place_by_place(self):
        self.assertEqual(self.one_of("put lamp and cap on tray"), ("which", ["cap", "hat"]))
        self.assertEqual(self.one_of("red"), ("which", ["tray", "shelf"]))
        self.assertEqual(self.talk.told(), (None, [], ["tray", "shelf"]))
        self.assertEqual(self.one_of("red"), do("put", "two", "cap", link="on", holder="tray"))

    def test_an_answer_is_looked_at_where_it_was_asked_alone(self):
        self.one_of("put lamp and cap on tray")
        self.assertEqual(self.one_of("fixed"), ("words", 1))
        self.one_of("put lamp and cap on tray")
        self.assertEqual(self.one_of("tray"), ("words", 1))
        self.one_of("put lamp and cap on tray")
        self.assertEqual(self.one_of("cap"), ("which", ["cap", "hat"]))

    def test_the_readings_left_are_best_ones(self):
        self.assertEqual(self.one_of("take lamp and lamp"), LAMPS_ASKED)
        self.assertEqual(self.one_of("small"), do("take", "three", "one"))
        self.assertEqual(self.one_of("take lamp"), LAMPS_ASKED)
        self.assertEqual(self.one_of("green lamp"), ("words", 1))

    def test_readings_are_left_as_they_are(self):
        self.one_of("take lamp")
        self.state.move_thing("three", ("nowhere",))
        self.state.move_thing("one", ("with",))
        self.assertEqual(self.one_of("red"), LAMPS_ASKED)
        self.assertEqual(self.one_of("small"), do("take", "three"))

    def test_all_is_looked_at_anew(self):
        self.assertEqual(self.one_of("put all but cap on tray"), ("which", ["tray", "shelf"]))
        self.state.move_thing("rose", ("with",))
        self.state.move_thing("two", ("at", "hall"))
        self.assertEqual(self.one_of("red"), do("put", "bag", "rose", link="on", holder="tray"))
        self.assertEqual(self.talk.told(), (None, ["bag", "rose"], []))
        self.assertEqual(self.one_of("put all but cap on tray"), ("which", ["tray", "shelf"]))
        self.state.go_to("hut")
        self.state.move_thing("bag", ("at", "hall"))
        self.state.move_thing("rose", ("at", "hall"))
        self.assertEqual(self.one_of("red"), ("nothing",))

    def test_it_and_them_with_a_holder_asked_about(self):
        self.all_of("drop all then drop lamp")
        self.assertEqual(self.one_of("put it on tray"), ("which", ["tray", "shelf"]))
        self.assertEqual(self.one_of("red tray"), do("put", "two", link="on", holder="tray"))
        self.assertEqual(self.one_of("put them on tray"), ("which", ["tray", "shelf"]))
        self.assertEqual(self.one_of("red"), do("put", "two", "bag", "cap", "hat", link="on", holder="tray"))

    def test_a_holder_that_is_it(self):
        self.all_of("shut all")
        self.assertEqual(self.one_of("put cap in it"), ("which", ["cap", "hat"]))
        self.assertEqual(self.one_of("red"), do("put", "cap", link="in", holder="chest"))
        self.assertEqual(self.talk.told(), ("cap", [], []))

    def test_the_clause_that_asked_waits_alone(self):
        self.assertEqual(self.all_of("take lamp then look then up"), [LAMPS_ASKED])
        self.assertEqual(self.all_of("small"), [do("take", "three")])

    def test_another_line_behind_an_answer_not_asked_yet(self):
        self.one_of("take lamp")
        self.talk.begin("small")
        self.assertEqual(self.all_of("look"), [("do", [("look", "", "", "")])])


class TestLettingGo(Asking):
    def test_what_is_not_do_lets_go_the_rest(self):
        for clause, meant in (
            ("take cup", ("unknown", "cup")), ("take it", ("what", "it")), ("take pin", ("absent", ("pin",))),
            ("take lamp", LAMPS_ASKED), ("doff all", ("nothing",)),
        ):
            talk = Talk(self.world)
            found = self.all_of(f"look then {clause} then look then up", talk)
            self.assertEqual(found, [("do", [("look", "", "", "")]), meant])

    def test_put_back(self):
        self.assertIsNone(self.talk.put_back("pin", ["one", "rose"]))
        self.assertEqual(self.talk.told(), ("pin", ["one", "rose"], []))
        self.assertEqual(self.one_of("take it"), do("take", "pin"))
        self.assertEqual(self.one_of("take them"), do("take", "one", "rose"))
        self.talk.put_back(None, [])
        self.assertEqual(self.talk.told(), (None, [], []))
        self.assertEqual(self.one_of("take it"), ("what", "it"))
        self.talk.put_back(None, ["one", "two"])
        self.assertEqual(self.one_of("put them in it"), ("what", "it"))
        self.talk.put_back("one", None)
        self.assertEqual(self.talk.told(), ("one", [], []))

    def test_put_back_keeps_no_list(self):
        them = ["one", "rose"]
        self.talk.put_back(None, them)
        them.clear()
        self.assertEqual(self.talk.told(), (None, ["one", "rose"], []))

    def test_put_back_lets_the_question_go(self):
        self.one_of("take lamp")
        self.talk.put_back("pin", [])
        self.assertEqual(self.talk.told(), ("pin", [], []))
        self.assertEqual(self.one_of("small"), ("words", 1))

    def test_put_back_lets_clauses_wait(self):
        self.talk.begin("look then take it")
        self.talk.put_back("rose", [])
        self.assertEqual(self.mean(), ("do", [("look", "", "", "")]))
        self.talk.put_back("one", [])
        self.assertEqual(self.mean(), do("take", "one"))
        self.assertIsNone(self.mean())
        self.one_of("take lamp")
        self.talk.begin("small")
        self.talk.put_back(None, [])
        self.assertEqual(self.mean(), do("take", "three"))
        self.talk.begin("take")
        self.talk.put_back(None, [])
        self.assertEqual(self.mean(), ("words", 2))

    def test_let_go(self):
        self.all_of("drop all then drop lamp")
        for line in ("look then up", "take", None):
            self.talk.begin(line)
            self.assertIsNone(self.talk.let_go())
            self.assertIsNone(self.mean())
        self.talk.begin("look then up")
        self.mean()
        self.talk.let_go()
        self.assertIsNone(self.mean())
        self.assertEqual(self.talk.told(), ("two", ["two", "bag", "cap", "hat"], []))

    def test_let_go_of_a_question(self):
        self.one_of("take lamp")
        self.talk.let_go()
        self.assertEqual(self.talk.told(), (None, [], []))
        self.assertEqual(self.one_of("small"), ("words", 1))


class TestCopied(Asking):
    def test_amid_a_line(self):
        self.talk.begin("drop lamp then take it then up")
        self.mean()
        other = self.talk.copied()
        self.assertIs(type(other), Talk)
        self.assertIsNot(other, self.talk)
        for talk in (self.talk, other):
            self.assertEqual(talk.told(), ("two", [], []))
            self.assertEqual(self.mean(talk), do("take", "two"))
            self.assertEqual(self.mean(talk), ("do", [("go", "up", "", "")]))
            self.assertIsNone(self.mean(talk))

    def test_behind_a_question(self):
        self.all_of("drop all then take lamp then up")
        other = self.talk.copied()
        self.assertEqual(other.told(), (None, ["two", "bag", "cap", "hat"], ["one", "three"]))
        self.assertEqual(self.one_of("small"), do("take", "three"))
        self.assertEqual(other.told(), (None, ["two", "bag", "cap", "hat"], ["one", "three"]))
        self.assertEqual(self.one_of("red", other), LAMPS_ASKED)
        self.assertEqual(self.one_of("old", other), do("take", "one"))
        self.assertEqual((self.talk.told()[0], other.told()[0]), ("three", "one"))

    def test_behind_an_answer(self):
        self.one_of("take lamp")
        self.talk.begin("small")
        other = self.talk.copied()
        for talk in (other, self.talk):
            self.assertEqual(self.mean(talk), do("take", "three"))

    def test_behind_what_is_no_line(self):
        self.talk.begin("take")
        other = self.talk.copied()
        for talk in (other, self.talk):
            self.assertEqual(self.mean(talk), ("words", 2))
            self.assertIsNone(self.mean(talk))

    def test_they_go_their_own_ways(self):
        self.all_of("drop all then drop lamp")
        other = self.talk.copied()
        self.one_of("take small lamp", other)
        self.one_of("take small lamp and red", other)
        self.assertEqual(self.talk.told(), ("two", ["two", "bag", "cap", "hat"], []))
        self.talk.put_back(None, [])
        self.assertEqual(other.told(), ("three", ["three", "rose"], []))
        self.talk.begin("look then up")
        other = self.talk.copied()
        other.let_go()
        self.assertEqual(self.mean(), ("do", [("look", "", "", "")]))
        self.assertIsNone(self.mean(other))


if __name__ == "__main__":
    unittest.main()
