"""Points 80, 82 and 83: how a line is answered, the beginning, and undoing."""

import unittest

from tests.samples import Alike, looked, manor, shop
from worldtale.clock import begin_step
from worldtale.play import Play
from worldtale.saying import hold_lines, look_lines
from worldtale.state import State

NO_TEXTS = (None, True, False, 0, 1, [], ["look"], (), ("look",), {}, set(), b"look", object(), Alike())
NO_LINES = ("", " ", "look ", "Look", "take  cap", "lamp", "take", "take 7", "up up", "look then", " ".join(["look"] * 41))
METHODS = ("say", "opening", "turn_number", "state_now", "scenes_now", "ended_by", "undo_count")


class Playing(unittest.TestCase):
    def setUp(self):
        self.play = Play(manor())

    def stand(self, play=None):
        """All that can be asked of a play."""
        play = self.play if play is None else play
        return (play.state_now().told(), play.turn_number(), play.scenes_now(), play.ended_by(), play.undo_count())

    def says(self, line, *lines, turns=0, play=None):
        """Answers a line with these lines, by which so many turns come to be."""
        play = self.play if play is None else play
        before = play.turn_number()
        found = play.say(line)
        self.assertIs(type(found), list)
        self.assertEqual(found, list(lines), line)
        self.assertEqual(play.turn_number() - before, turns, line)
        self.assertEqual(play.undo_count(), play.turn_number())
        self.assertEqual(play.state_now().turn(), play.turn_number())

    def stays(self, line, *lines, play=None):
        """Answers a line with these lines, by which nothing is changed."""
        before = self.stand(play)
        self.says(line, *lines, play=play)
        self.assertEqual(self.stand(play), before)


class TestTheBeginning(Playing):
    def test_the_opening(self):
        made = manor()
        self.assertEqual(self.play.opening(), look_lines(made, State(made)))
        self.assertEqual(self.stand(), (State(made).told(), 0, [], None, 0))

    def test_scenes_and_ends_of_the_beginning(self):
        made = looked("place hall", "scene fog : always : always", "scene gale : you at hall : always", "end done : always")
        play = Play(made)
        self.assertEqual(play.opening(), ["hall.", "fog begins.", "gale begins.", "done."])
        self.assertEqual(play.opening(), begin_step(made, State(made))[0])
        self.assertEqual(self.stand(play), (State(made).told(), 0, ["fog", "gale"], "done", 0))
        self.stays("wait", "It is over.", play=play)
        self.stays("undo", "Nothing to undo.", play=play)
        self.stays("undo then undo then look then undo", "Nothing to undo.", "Nothing to undo.", "It is over.", play=play)

    def test_the_opening_stays_the_opening(self):
        before = self.play.opening()
        self.play.say("take lamp then down")
        self.assertEqual(self.play.opening(), before)

    def test_scenes_that_run_from_the_beginning_end(self):
        play = Play(looked("place hall", "scene fog : always : always", "scene gale : always : you at hall"))
        self.says("wait", "Time goes by.", "fog ends.", "gale ends.", turns=1, play=play)
        self.says("wait", "Time goes by.", "fog begins.", "gale begins.", turns=1, play=play)

    def test_the_asker_s_own(self):
        play = Play(looked("place hall", "scene fog : always : always"))
        play.opening().clear()
        play.scenes_now().clear()
        play.state_now().next_turn()
        play.say("look").clear()
        self.assertEqual(play.opening(), ["hall.", "fog begins."])
        self.assertEqual((play.scenes_now(), play.state_now().turn(), play.say("look")), (["fog"], 0, ["hall."]))

    def test_each_method_is_in_the_class(self):
        for name in METHODS:
            self.assertIn(name, vars(Play))
        self.assertEqual(Play.__module__, "worldtale.play")

    def test_two_plays_of_one_world(self):
        made = manor()
        one, other = Play(made), Play(made)
        one.say("take lamp")
        self.assertEqual(other.turn_number(), 0)
        self.assertEqual(other.say("take it"), ["What is it?"])


class TestAnswers(Playing):
    def test_look_and_list_are_no_turns(self):
        state = self.play.state_now()
        self.stays("look", *look_lines(state.told_world(), state))
        self.stays("list", "You hold a cap and a bag.")
        self.stays("list then list", *["You hold a cap and a bag."] * 2)

    def test_a_deed_is_a_turn(self):
        self.says("take lamp", "Taken.", turns=1)
        self.says("wear cap", "Worn.", turns=1)
        self.says("list", "You hold a red lamp and a bag.", "You wear a cap.")
        self.says("wait", "Time goes by.", turns=1)
        self.says("down", "cellar.", "Ways: up.", turns=1)
        self.says("go up", *look_lines(manor(), self.look_at("hall")), turns=1)

    def look_at(self, place):
        state = self.play.state_now()
        state.go_to(place)
        return state

    def test_several_clauses_are_several_turns(self):
        self.says("take lamp then drop it then take it then list", "Taken.", "Dropped.", "Taken.",
                  "You hold a red lamp, a cap and a bag.", turns=3)

    def test_clauses_by_the_state_as_it_is_then(self):
        self.says("drop all then drop all then take cap", "Dropped.", "Dropped.", "Nothing there.", turns=1)
        self.says("take cap then drop all then take them then list", "Taken.", "Dropped.", "Taken.", "Taken.",
                  "You hold a cap and a bag.", turns=3)

    def test_several_deeds_are_one_turn(self):
        self.says("drop cap and bag", "Dropped.", "Dropped.", turns=1)
        self.says("take them", "Taken.", "Taken.", turns=1)
        self.says("put all but bag in bag", "Done.", turns=1)

    def test_refused_deeds_amid_others(self):
        self.says("take lamp and cap", "Taken.", "You have it.", turns=1)
        self.says("wear bag and lamp and cap", "Worn.", "You can not wear it.", "Worn.", turns=1)
        self.stays("drop cap and bag", "You wear it.", "You wear it.")
        self.assertEqual(self.play.state_now().where("lamp"), ("with",))

    def test_a_refused_deed_is_no_turn_and_the_line_goes_on(self):
        self.stays("take cap", "You have it.")
        self.stays("north", "No way there.")
        self.says("east then take cap then wait", "It is shut.", "You have it.", "Time goes by.", turns=1)
        self.stays("take gate then open lamp", "It stays.", "It has no lid.")

    def test_what_rules_ahead_of_a_refused_deed_did_goes_back(self):
        self.stays("take coin", "the coin glitters", "You can not reach it.")
        self.assertEqual(self.play.state_now().number_of("luck"), 0)
        self.says("open glass box then take coin", "Opened.", "the coin glitters", "Taken.", "rich.", turns=2)
        self.assertEqual(self.play.state_now().number_of("luck"), 2)

    def test_what_goes_back_is_of_that_deed_alone(self):
        self.says("open glass box and red lamp and coin", "Opened.", "It has no lid.", "It has no lid.", turns=1)
        self.says("take lamp and coin", "Taken.", "the coin glitters", "Taken.", "rich.", turns=1)
        play = Play(looked("place hall", "thing pin pin : with you", "thing cup cup : with you", "state luck 0",
                           "rule before take any : luck is 0 : say hm and set luck 1", "rule before drop any : luck is 1 : say ha"))
        self.says("take pin and cup then drop pin and cup", "hm", "You have it.", "hm", "You have it.", "Dropped.", "Dropped.",
                  turns=1, play=play)

    def test_a_stop_and_an_instead_are_turns(self):
        self.play.say("open gate then east then take cup")
        self.assertEqual(self.play.turn_number(), 3)
        self.says("drop cup", "better not", turns=1)
        self.assertEqual(self.play.state_now().where("cup"), ("with",))
        self.says("wait", "the ghost sighs", "haunted ends.", turns=1)
        self.says("wait", "Time goes by.", "a cold wind", "haunted begins.", turns=1)

    def test_what_comes_behind_a_turn(self):
        self.says("open gate then east then wait", "Opened.", "garden.", "Ways: west.",
                  "Here: an oak table, an old iron statue and an iron gate.", "On the oak table: a cup.", "dusk begins.",
                  "Time goes by.", "a cold wind", "haunted begins.", turns=3)
        self.assertEqual(self.play.scenes_now(), ["dusk", "haunted"])
        self.says("west then down", "hall.", "Ways: down, east.",
                  "Here: a red lamp, an old box, a glass box and an iron gate.", "In the glass box: a small coin.",
                  "brr", "dusk ends.", turns=2)
        self.assertEqual(self.play.scenes_now(), ["haunted"])


class TestWhatIsNotMeant(Playing):
    def test_no_line(self):
        for line in (*NO_TEXTS, *NO_LINES):
            self.stays(line, "What?")

    def test_unknown(self):
        self.stays("take sword", "I do not know sword.")
        self.stays("take the shiny lamp", "I do not know shiny.")
        self.stays("put lamp in the big old box", "I do not know big.")

    def test_absent(self):
        self.stays("take ghost", "You see no such thing.")
        self.stays("take cap and cup", "You see no such thing.")
        self.stays("take lamp and lamp", "You see no such thing.")

    def test_nothing(self):
        self.stays("doff all", "Nothing there.")
        self.stays("put all but cap and bag in bag", "Nothing there.")

    def test_what_it_or_they_are(self):
        self.stays("take it", "What is it?")
        self.stays("take them", "What are they?")
        self.stays("put them in it", "What are they?")
        self.stays("put it in it", "What is it?")
        self.stays("put cap in it", "What is it?")

    def test_the_rest_of_the_line_is_let_go(self):
        for clause, line in (("take sword", "I do not know sword."), ("take ghost", "You see no such thing."),
                             ("doff all", "Nothing there."), ("take it", "What is it?"),
                             ("open box", "Which, the old box or the glass box?")):
            self.stays(f"{clause} then wait then look", line)

    def test_clauses_ahead_of_it_are_done(self):
        self.says("take lamp then take sword then wait", "Taken.", "I do not know sword.", turns=1)
        self.says("take lamp then", "What?")
        self.assertEqual(self.play.state_now().where("lamp"), ("with",))


class TestQuestions(Playing):
    def test_a_question_and_its_answer(self):
        self.stays("open box", "Which, the old box or the glass box?")
        self.says("glass", "Opened.", turns=1)
        self.assertTrue(self.play.state_now().is_open("case"))
        self.stays("glass", "What?")
        self.says("open box", "Opened.", turns=1)

    def test_the_noun_alone_leaves_both(self):
        self.stays("open box", "Which, the old box or the glass box?")
        self.stays("the box", "Which, the old box or the glass box?")
        self.says("the old one", "What?")
        self.stays("old", "What?")

    def test_another_line_lets_it_go(self):
        self.stays("open box", "Which, the old box or the glass box?")
        self.stays("list", "You hold a cap and a bag.")
        self.stays("old", "What?")

    def test_several_questions(self):
        play = Play(shop())
        self.stays("put red lamp on tray", "Which, the old red lamp or the red small lamp?", play=play)
        self.stays("old", "Which, the red tray or the tray?", play=play)
        self.stays("red tray", "You do not hold it.", play=play)
        self.stays("take red lamp", "Which, the old red lamp or the red small lamp?", play=play)
        self.says("small", "Taken.", turns=1, play=play)

    def test_it_is_what_the_answer_meant(self):
        self.says("take lamp", "Taken.", turns=1)
        self.stays("open box", "Which, the old box or the glass box?")
        self.says("old", "Opened.", turns=1)
        self.says("take it", "Taken.", turns=1)
        self.assertEqual(self.play.state_now().where("chest"), ("with",))


class TestOver(Playing):
    def setUp(self):
        self.play = Play(manor())
        self.play.say("open glass box then take coin")

    def test_it_is_over(self):
        self.assertEqual(self.play.ended_by(), "rich")
        for line in ("look", "list", "wait", "take lamp", "take it", "take sword", "take them", "open box", "doff all"):
            self.stays(line, "It is over.")

    def test_what_is_no_line_too(self):
        for line in (*NO_TEXTS, *NO_LINES):
            self.stays(line, "It is over.")

    def test_the_rest_of_the_line_is_let_go(self):
        self.stays("look then look then undo", "It is over.")

    def test_the_line_by_which_it_is_over(self):
        play = Play(manor())
        self.says("open glass box then take coin then list then undo then wait", "Opened.", "the coin glitters", "Taken.",
                  "rich.", turns=2, play=play)

    def test_undo_and_on(self):
        self.says("undo", "Undone.", turns=-1)
        self.assertIsNone(self.play.ended_by())
        self.says("wait then take coin", "Time goes by.", "the coin glitters", "Taken.", turns=2)
        self.assertIsNone(self.play.ended_by())
        self.says("wait then wait", "Time goes by.", "rich.", turns=1)

    def test_undo_amid_a_line(self):
        self.says("undo then list", "Undone.", "You hold a cap and a bag.", turns=-1)
        self.says("take coin then undo", "the coin glitters", "Taken.", "rich.", turns=1)
        self.says("undo then undo then undo then list", "Undone.", "Undone.", "Nothing to undo.",
                  "You hold a cap and a bag.", turns=-2)

    def test_it_and_them_stay(self):
        play = Play(looked("place hall", "thing pin pin : at hall", "thing cup cup : at hall", "thing cap cap : at hall",
                           "end done : cup with you"))
        self.says("take pin and cap then take cup", "Taken.", "Taken.", "Taken.", "done.", turns=2, play=play)
        for line in ("drop pin", "drop cup and pin", "drop all", "take pin then drop cap"):
            self.says(line, "It is over.", play=play)
        self.says("undo", "Undone.", turns=-1, play=play)
        # Taken back is what "it" meant, too: ahead of that clause it meant nothing.
        self.says("drop it", "What is it?", play=play)
        self.says("drop them", "Dropped.", "Dropped.", turns=1, play=play)
        self.assertEqual(play.state_now().where("cap"), ("at", "hall"))

    def test_it_and_them_stay_for_what_is_undone_no_further(self):
        play = Play(looked("place hall", "thing pin pin : at hall", "thing cup cup : at hall", "end done : cup with you"))
        self.says("take pin then take cup", "Taken.", "Taken.", "done.", turns=2, play=play)
        self.says("drop cup", "It is over.", play=play)
        self.says("undo then drop it", "Undone.", "Dropped.", turns=0, play=play)
        self.assertEqual(play.state_now().where("pin"), ("at", "hall"))

    def test_no_question_is_asked(self):
        self.stays("open box", "It is over.")
        self.says("undo", "Undone.", turns=-1)
        self.stays("old", "What?")


class TestUndo(Playing):
    def test_of_no_turn(self):
        self.stays("undo", "Nothing to undo.")
        self.stays("undo then list then undo", "Nothing to undo.", "You hold a cap and a bag.", "Nothing to undo.")

    def test_one_after_another_to_the_beginning(self):
        stands = [self.stand()]
        for line in ("take lamp", "open gate", "open old box", "take all", "east", "wait", "wear cap and bag", "wait", "west",
                     "down"):
            self.play.say(line)
            stands.append(self.stand())
        self.assertEqual(self.play.undo_count(), 10)
        self.assertEqual(self.play.scenes_now(), [])
        for stand in reversed(stands[:-1]):
            self.says("undo", "Undone.", turns=-1)
            self.assertEqual(self.stand(), stand)
        self.stays("undo", "Nothing to undo.")
        self.assertEqual(self.stand(), self.stand(Play(manor())))

    def test_it_can_not_be_done_again_so(self):
        self.play.say("take lamp then wait")
        self.says("undo", "Undone.", turns=-1)
        self.says("undo", "Undone.", turns=-1)
        self.stays("undo", "Nothing to undo.")
        self.assertEqual(self.play.state_now().where("lamp"), ("at", "hall"))

    def test_the_whole_turn_of_several_deeds(self):
        self.says("drop cap and bag", "Dropped.", "Dropped.", turns=1)
        self.says("undo then list", "Undone.", "You hold a cap and a bag.", turns=-1)

    def test_what_is_no_turn_is_not_taken_back(self):
        self.play.say("take lamp")
        self.play.say("take lamp then look then list then north then take sword")
        self.says("undo", "Undone.", turns=-1)
        self.assertEqual(self.play.state_now().where("lamp"), ("at", "hall"))

    def test_it_and_them_as_they_were_ahead_of_the_clause(self):
        self.play.say("take lamp then drop cap and bag")
        self.play.say("take bag then take cap and bag")
        self.says("undo", "Undone.", turns=-1)
        self.says("drop it", "Dropped.", turns=1)
        self.assertEqual(self.play.state_now().where("bag"), ("at", "hall"))
        self.says("undo then undo then take them", "Undone.", "Undone.", "Taken.", "Taken.", turns=-1)
        self.says("drop it", "Dropped.", turns=1)
        self.assertEqual(self.play.state_now().where("lamp"), ("at", "hall"))
        for _ in range(3):
            self.says("undo", "Undone.", turns=-1)
        self.stays("take them", "What are they?")
        self.says("undo", "Undone.", turns=-1)
        self.stays("take it", "What is it?")

    def test_what_a_refused_clause_meant_is_taken_back_with_the_turn_ahead_of_it(self):
        self.play.say("take lamp")
        self.play.say("take cap")
        self.says("undo", "Undone.", turns=-1)
        self.stays("drop it", "What is it?")

    def test_ahead_of_its_clause_not_of_its_line(self):
        self.says("drop cap then take lamp then undo then take it", "Dropped.", "Taken.", "Undone.", "Taken.", turns=2)
        self.assertEqual(self.play.state_now().where("cap"), ("with",))
        self.assertEqual(self.play.state_now().where("lamp"), ("at", "hall"))

    def test_clauses_behind_it_go_on(self):
        self.says("wait then undo then wait then wait", "Time goes by.", "Undone.", "Time goes by.", "Time goes by.", turns=2)

    def test_a_question_is_let_go(self):
        self.play.say("wait")
        self.stays("open box", "Which, the old box or the glass box?")
        self.says("undo", "Undone.", turns=-1)
        self.stays("old", "What?")

    def test_scenes_and_the_every_rows(self):
        self.play.say("open gate then east then wait")
        self.says("undo", "Undone.", turns=-1)
        self.assertEqual(self.play.scenes_now(), ["dusk"])
        self.says("wait", "Time goes by.", "a cold wind", "haunted begins.", turns=1)


if __name__ == "__main__":
    unittest.main()
