"""Points 100 and 101, and what holds over the whole program behind every line of an evening."""

import random
import unittest

from tests.samples import HOUSE_TEXT, MANOR_TEXT, SHOP_TEXT, Alike
from tests.test_search import aloud
from tests.wild import wild_line, wild_text
from worldtale.errors import BadRow, BadWorld, TooGreat
from worldtale.evening import Evening
from worldtale.keeping import kept_text, taken_up
from worldtale.play import Play
from worldtale.reach import holder_chain, is_hidden, is_lit, root_of, seen_things
from worldtale.search import way_to
from worldtale.worldread import read_world

NO_TEXTS = (None, True, False, 0, 1, [], ["look"], (), ("look",), {}, set(), b"look", object(), Alike())
LINES = ("take lamp", "open box", "old", "take it then list", "foo", "", "take sword then wait", "open gate then east then wait",
         "wear cap and bag", "undo then take cup then drop it", "west then open glass box then take coin then look", "look",
         "undo", "list")


class TestEvenings(unittest.TestCase):
    def setUp(self):
        self.evening = Evening(MANOR_TEXT)
        self.play = Play(read_world(MANOR_TEXT))

    def test_each_method_is_in_the_class(self):
        for name in ("say", "book", "kept", "again"):
            self.assertIn(name, vars(Evening))
        self.assertEqual(Evening.__module__, "worldtale.evening")

    def test_lines_are_answered_as_a_play_answers_them(self):
        wanted = [("", self.play.opening())]
        self.assertEqual(self.evening.book(), wanted)
        for line in LINES:
            found = self.evening.say(line)
            self.assertIs(type(found), list)
            self.assertEqual(found, self.play.say(line))
            wanted.append((line, found))
            self.assertEqual(self.evening.book(), wanted)
        self.assertEqual({type(entry) for entry in self.evening.book()}, {tuple})
        self.assertEqual(self.evening.kept(), kept_text(self.play))

    def test_what_is_no_text_stands_as_none(self):
        for thing in NO_TEXTS:
            self.assertEqual(self.evening.say(thing), ["What?"])
        lines = [line for line, _ in self.evening.book()]
        self.assertEqual(len(lines), len(NO_TEXTS) + 1)
        self.assertTrue(all([line is None for line in lines[1:]]))
        self.assertTrue(self.evening.again(self.evening.book()))

    def test_what_is_no_line_stands_as_it_is(self):
        for line in ("", " ", "Look", "take", "up\nup"):
            self.assertEqual(self.evening.say(line), ["What?"])
            self.assertEqual(self.evening.book()[-1], (line, ["What?"]))

    def test_the_asker_s_own(self):
        self.evening.say("list").clear()
        self.evening.book().clear()
        for entry in self.evening.book():
            entry[1].clear()
        self.assertEqual(self.evening.book(), [("", self.play.opening()), ("list", ["You hold a cap and a bag."])])

    def test_texts_that_are_refused(self):
        for thing in NO_TEXTS:
            with self.assertRaises(BadRow) as caught:
                Evening(thing)
            self.assertEqual((caught.exception.row, caught.exception.word), (1, 0))
        for text, row, word in (("", 1, 0), ("place hall\nfoo", 2, 1), ("place hall\n", 2, 0), ("place hall dim", 1, 3)):
            with self.assertRaises(BadRow) as caught:
                Evening(text)
            self.assertEqual((caught.exception.row, caught.exception.word), (row, word))
        for text, what, name in (("place hall\nplace hall", "twice", "hall"), ("place hall\nend done : you at hut", "unknown", "done"),
                                 ("place hall\nthing a a : in a box", "ring", "a")):
            with self.assertRaises(BadWorld) as caught:
                Evening(text)
            self.assertEqual((caught.exception.what, caught.exception.name), (what, name))

    def test_what_is_kept(self):
        for line in LINES:
            self.assertEqual(self.evening.kept(), kept_text(self.play))
            self.evening.say(line)
            self.play.say(line)
        self.assertEqual(self.evening.book()[1:], [(line, lines) for line, (_, lines) in zip(LINES, self.evening.book()[1:])])

    def test_a_question_is_let_go_by_it(self):
        self.assertEqual(self.evening.say("open box"), ["Which, the old box or the glass box?"])
        self.evening.kept()
        self.assertEqual(self.evening.say("old"), ["What?"])
        self.assertEqual(self.evening.say("open box"), ["Which, the old box or the glass box?"])
        self.assertEqual(self.evening.say("old"), ["Opened."])
        # Said anew, nothing is kept between the question and its answer.
        self.assertFalse(self.evening.again(self.evening.book()))


class TestAgain(unittest.TestCase):
    def setUp(self):
        self.evening = Evening(MANOR_TEXT)
        for line in ("take lamp", None, "open box", "old", "", "wait then foo"):
            self.evening.say(line)

    def told(self, book):
        before, kept = self.evening.book(), list(book)
        found = self.evening.again(book)
        self.assertIs(type(found), bool)
        self.assertEqual((self.evening.book(), book), (before, kept))
        return found

    def test_its_own_book(self):
        self.assertTrue(self.told(self.evening.book()))
        for many in range(1, 7):
            self.assertTrue(self.told(self.evening.book()[:many]))

    def test_a_book_of_another_evening(self):
        other = Evening(MANOR_TEXT)
        other.say("list then take it")
        self.assertTrue(self.told(other.book()))
        self.assertTrue(other.again(self.evening.book()))
        self.assertFalse(self.told(Evening(HOUSE_TEXT).book()))
        self.assertTrue(Evening("place hall").again([("", ["hall."]), ("wait", ["Time goes by."])]))
        self.assertFalse(Evening("place hall").again([("", ["hut."]), ("wait", ["Time goes by."])]))

    def test_books_that_tell_otherwise(self):
        book = self.evening.book()
        self.assertFalse(self.told([]))
        self.assertFalse(self.told(book[1:]))
        for at in range(len(book)):
            line, lines = book[at]
            for entry in ((line, [*lines, "Taken."]), (line, lines[:-1]), (line, []), ("list", lines)):
                self.assertFalse(self.told([*book[:at], entry, *book[at + 1:]]), entry)
        self.assertFalse(self.told([*book, ("list", ["You have nothing."])]))
        # Without the question its answer is none.
        self.assertFalse(self.told([*book[:3], *book[4:]]))

    def test_a_line_that_is_no_text(self):
        self.assertTrue(self.told([*self.evening.book(), (None, ["What?"])]))
        self.assertFalse(self.told([*self.evening.book(), (7, ["What?"])]))
        self.assertFalse(self.told([*self.evening.book(), (None, ["It is over."])]))


class TestOverTheWholeProgram(unittest.TestCase):
    """What holds behind every line, of many evenings in worlds made up by dice."""

    def evenings(self, many):
        for seed in range(many):
            dice = random.Random(seed)
            text = dice.choice((MANOR_TEXT, SHOP_TEXT)) if seed < 8 else wild_text(dice)
            yield text, [wild_line(dice) for _ in range(25)]

    def check_state(self, world, state):
        """Each thing is in one place, where it can be; what is seen is neither hidden nor elsewhere."""
        places, things, ways = world.told()[:3]
        traits = {row[0]: row[4] for row in things}
        sees = seen_things(state)
        for name in traits:
            where = state.where(name)
            chain = holder_chain(state, name)
            self.assertNotIn(name, chain)
            self.assertEqual(len(set(chain)), len(chain))
            self.assertIn(where[0], ("at", "in", "on", "with", "nowhere"))
            if where[0] == "at":
                self.assertIn(where[1], [row[0] for row in places])
            if where[0] in ("in", "on"):
                self.assertIn({"in": "box", "on": "stand"}[where[0]], traits[where[1]])
            if state.is_worn(name):
                self.assertEqual((where, "wear" in traits[name]), (("with",), True))
            if "door" in traits[name]:
                self.assertEqual(where, ("nowhere",))
                here = any([state.here() in (way[0], way[2]) and way[3] == name for way in ways])
                self.assertIs(name in sees, here and is_lit(state, state.here()))
            elif name in sees:
                self.assertFalse(is_hidden(state, name))
                self.assertIn(root_of(state, name), (("at", state.here()), ("with",)))

    def test_behind_every_line(self):
        for text, lines in self.evenings(60):
            world = read_world(text)
            play = Play(world)
            for line in lines:
                play.say(line)
                self.check_state(world, play.state_now())
                self.assertEqual(play.undo_count(), play.turn_number())
            self.assertEqual(world.told(), read_world(text).told())

    def test_taken_up_it_answers_alike(self):
        for text, lines in self.evenings(30):
            world = read_world(text)
            play = Play(world)
            for at, line in enumerate(lines):
                if at % 6 == 3:
                    kept = kept_text(play)
                    play, other = taken_up(world, kept), play
                    self.assertEqual(kept_text(play), kept)
                    for later in lines[at:at + 4]:
                        self.assertEqual(taken_up(world, kept).say(later), other.say(later))
                        kept = kept_text(other)
                play.say(line)

    def test_undone_as_often_as_can_be_it_stands_as_at_the_beginning(self):
        for text, lines in self.evenings(40):
            world = read_world(text)
            play, first = Play(world), Play(world)
            for line in lines:
                play.say(line)
            for _ in range(play.undo_count()):
                self.assertEqual(play.say("undo"), ["Undone."])
            self.assertEqual(play.say("undo"), ["Nothing to undo."])
            self.assertEqual(play.state_now().told(), first.state_now().told())
            self.assertEqual((play.scenes_now(), play.ended_by()), (first.scenes_now(), first.ended_by()))
            # What it and them mean by clauses that were no turn is all that may be left.
            left = kept_text(play)[len(kept_text(first)):].split()
            self.assertEqual(kept_text(play)[:len(kept_text(first))], kept_text(first))
            self.assertIn(left[:1], ([], ["it"], ["them"]))

    def test_the_same_evening_tells_the_same_book(self):
        for text, lines in self.evenings(25):
            evening, play = Evening(text), Play(read_world(text))
            for line in lines:
                self.assertEqual(evening.say(line), play.say(line))
            self.assertTrue(evening.again(evening.book()))
            self.assertEqual(evening.kept(), kept_text(play))

    def test_ways_said_aloud(self):
        found = 0
        for seed in range(12):
            world = read_world(wild_text(random.Random(f"way {seed}")))
            for name in ("rich", "lost"):
                try:
                    way = way_to(world, name, 3)
                except TooGreat:
                    continue
                play = Play(world)
                for deed in way or ():
                    self.assertIsNone(play.ended_by())
                    play.say(aloud(world, deed))
                    found += 1
                self.assertEqual(play.ended_by() == name, way is not None)
        self.assertGreater(found, 0)


if __name__ == "__main__":
    unittest.main()
