"""Points 90 and 91: what is kept of a play, and what is taken up or refused."""

import unittest

from tests.samples import Alike, looked, manor
from worldtale import keeping
from worldtale.errors import BadRow
from worldtale.keeping import kept_text, taken_up
from worldtale.play import Play

NO_TEXTS = (None, True, False, 0, 1, [], ["turn 0"], (), ("turn 0",), {}, set(), b"turn 0", object(), Alike())

DEN_ROWS = (
    "place den", "place hut",
    "thing chest chest : at den box shut",
    "thing coat coat : with you box wear",
    "thing tray tray : at den stand",
    "thing pin pin : at den",
    "thing gate gate : nowhere door shut",
    "way den up hut by gate",
    "state luck 0", "state mood 3",
    "scene fog : always : luck is 9",
    "scene gale : luck is 1 : luck is 9",
    "scene hail : luck is 1 : luck is 9",
    "end done : luck is 2",
    "end gone : luck is 3",
    "rule after wait any : luck is 1 : set luck 2",
    "rule after wait any : luck is 0 : set luck 1",
)


def den():
    rows = sorted(DEN_ROWS, key=lambda row: ("place thing way state rule every scene end".split()).index(row.split()[0]))
    return looked(*rows)


# The beginning, row by row.
FIRST = (
    "turn 0", "you den", "thing chest at den", "thing coat with you open", "thing tray at den", "thing pin at den",
    "thing gate nowhere", "state luck 0", "state mood 3", "runs fog",
)
# Behind "wear coat", "take pin and tray", "wait" and "wait".
OVER = (
    "turn 4", "you den", "thing chest at den", "thing coat with you open worn", "thing tray with you", "thing pin with you",
    "thing gate nowhere", "state luck 2", "state mood 3", "runs fog", "runs gale", "runs hail", "over done", "it coat",
    "them pin tray", "back",
    "turn 3", "you den", "thing chest at den", "thing coat with you open worn", "thing tray with you", "thing pin with you",
    "thing gate nowhere", "state luck 1", "state mood 3", "runs fog", "runs gale", "runs hail", "it coat", "them pin tray",
    "back",
    "turn 2", "you den", "thing chest at den", "thing coat with you open worn", "thing tray with you", "thing pin with you",
    "thing gate nowhere", "state luck 0", "state mood 3", "runs fog", "it coat", "them pin tray", "back",
    "turn 1", "you den", "thing chest at den", "thing coat with you open worn", "thing tray at den", "thing pin at den",
    "thing gate nowhere", "state luck 0", "state mood 3", "runs fog", "it coat", "back",
    *FIRST,
)
ENDED = ("wear coat", "take pin and tray", "wait then wait")


def played(*lines, world=None):
    play = Play(den() if world is None else world)
    for line in lines:
        play.say(line)
    return play


def stand(play):
    return (play.state_now().told(), play.turn_number(), play.scenes_now(), play.ended_by(), play.undo_count(), play.opening())


class TestKept(unittest.TestCase):
    def kept(self, play):
        before = stand(play)
        text = kept_text(play)
        self.assertIs(type(text), str)
        self.assertEqual(stand(play), before)
        return text.split("\n")

    def test_the_beginning(self):
        self.assertEqual(self.kept(Play(den())), list(FIRST))
        self.assertEqual(kept_text(Play(looked("place hall"))), "turn 0\nyou hall")

    def test_all_moments_the_last_turn_s_first(self):
        self.assertEqual(self.kept(played(*ENDED)), list(OVER))

    def test_each_where(self):
        play = played("take tray and pin", "open chest and gate", "put pin on tray", "drop coat", "put tray in coat", "up")
        self.assertEqual(self.kept(play)[:8], [
            "turn 6", "you hut", "thing chest at den open", "thing coat at den open", "thing tray in coat", "thing pin on tray",
            "thing gate nowhere open", "state luck 0",
        ])

    def test_what_it_and_them_mean(self):
        play = played("take tray and chest", "shut coat")
        rows = self.kept(play)
        self.assertEqual(rows[9:13], ["runs fog", "it coat", "them tray chest", "back"])
        self.assertEqual(rows[13], "turn 1")
        self.assertEqual(rows[23:25], ["them tray chest", "back"])
        self.assertEqual(rows[25:], list(FIRST))
        self.assertEqual(self.kept(played("take gate"))[10:], ["it gate"])

    def test_what_is_undone_is_not_kept(self):
        self.assertEqual(self.kept(played(*ENDED, *["undo"] * 4)), list(FIRST))
        self.assertEqual(self.kept(played(*ENDED, "undo")), list(OVER[16:]))

    def test_a_question_is_let_go(self):
        for keep, lines in ((True, ["What?"]), (False, ["Opened."])):
            play = played(world=manor())
            self.assertEqual(play.say("open box"), ["Which, the old box or the glass box?"])
            if keep:
                text = kept_text(play)
                self.assertEqual(text, kept_text(Play(manor())))
                self.assertEqual(taken_up(manor(), text).say("old"), ["What?"])
            self.assertEqual(play.say("old"), lines)

    def test_it_and_them_stay_where_a_question_is_let_go(self):
        play = played("take lamp", "drop cap and bag", "open box", world=manor())
        kept_text(play)
        self.assertEqual(play.say("drop it then take them"), ["Dropped.", "Taken.", "Taken."])

    def test_it_and_them_stay_where_it_is_over(self):
        play = played(*ENDED)
        for line in ("take chest", "drop tray", "drop all", "take tray and chest", "open gate then look", "take foo", "foo"):
            self.assertEqual(play.say(line), ["It is over."])
            self.assertEqual(self.kept(play), list(OVER))

    def test_each_function_is_in_its_file(self):
        self.assertEqual((kept_text.__module__, taken_up.__module__), (keeping.__name__,) * 2)


class TestTakenUp(unittest.TestCase):
    def same(self, play):
        """The play taken up, which is as the kept one."""
        world = play.state_now().told_world()
        told, text = world.told(), kept_text(play)
        other = taken_up(world, text)
        self.assertIs(type(other), Play)
        self.assertEqual(world.told(), told)
        self.assertEqual(stand(other), stand(play))
        self.assertEqual(kept_text(other), text)
        return other

    def test_as_kept(self):
        for many in range(len(ENDED) + 1):
            self.same(played(*ENDED[:many]))

    def test_it_answers_all_lines_as_the_kept_one_does(self):
        lines = ("open gate", "take pin and tray", "up", "wait", "drop it", "drop them", "wear coat", "list", "look", "wait",
                 "undo", "take them", "wait then undo then undo", "foo", "drop all but coat", "undo then put it in coat")
        for many in range(len(lines)):
            play = played(*lines[:many])
            other = self.same(play)
            for line in lines:
                self.assertEqual(other.say(line), play.say(line))
                self.assertEqual(stand(other), stand(play))
                self.assertEqual(kept_text(other), kept_text(play))

    def test_one_that_is_over(self):
        other = self.same(played(*ENDED))
        self.assertEqual(other.say("look"), ["It is over."])
        for _ in range(4):
            self.assertEqual(other.say("undo"), ["Undone."])
        self.assertEqual(other.say("undo"), ["Nothing to undo."])
        self.assertEqual(stand(other), stand(Play(den())))
        self.assertEqual(kept_text(other), "\n".join(FIRST))

    def test_every_rows_go_by_the_turn(self):
        world = looked("place hall", "every 3 : always : say ding")
        play = played("wait", "wait", world=world)
        self.assertEqual(self.same(play).say("wait"), ["Time goes by.", "ding"])

    def test_two_of_one_text_go_their_own_ways(self):
        text = kept_text(played(*ENDED))
        world = den()
        one, other = taken_up(world, text), taken_up(world, text)
        one.say("undo")
        self.assertEqual((one.turn_number(), other.turn_number()), (3, 4))
        self.assertEqual(kept_text(other), text)

    def test_things_that_changed_their_holders(self):
        world = looked("place hall", "thing a bag red : at hall box", "thing b bag blue : in a box", "thing c bag green : in b box")
        other = self.same(played("take blue bag", "take red bag", "put it in blue bag", "drop blue bag", "take green bag",
                                 "drop it", "take blue bag", "put it in green bag", world=world))
        self.assertEqual(other.state_now().where("a"), ("in", "b"))
        self.assertEqual(other.state_now().where("b"), ("in", "c"))

    def test_nothing_else_is_looked_at(self):
        # No play comes to these: an end and scenes whose conditions don't hold, it and them that are nowhere.
        rows = ["turn 0", "you hut", "thing chest nowhere", "thing coat on tray", "thing tray in chest", "thing pin nowhere",
                "thing gate nowhere", "state luck 7", "state mood 0", "runs hail", "over gone", "it pin",
                "them gate pin tray coat chest"]
        play = taken_up(den(), "\n".join(rows))
        self.assertEqual((play.scenes_now(), play.ended_by(), play.undo_count()), (["hail"], "gone", 0))
        self.assertEqual(kept_text(play), "\n".join(rows))


class TestRefused(unittest.TestCase):
    def refused(self, text, row, word, world=None):
        with self.subTest(text=text):
            with self.assertRaises(BadRow) as caught:
                taken_up(den() if world is None else world, text)
            self.assertIs(type(caught.exception), BadRow)
            self.assertEqual((caught.exception.row, caught.exception.word), (row, word))

    def spoilt(self, row, told, word, rows=OVER):
        """The rows with this one told so are refused there."""
        self.refused("\n".join([*rows[:row - 1], told, *rows[row:]]), row, word)

    def goes(self, row, told, rows=OVER):
        """The rows with this one told so are taken up."""
        text = "\n".join([*rows[:row - 1], told, *rows[row:]])
        self.assertEqual(kept_text(taken_up(den(), text)), text)

    def test_no_text(self):
        for thing in NO_TEXTS:
            self.refused(thing, 1, 0)

    def test_rows_that_are_no_words(self):
        for row in range(1, len(OVER) + 1):
            told = OVER[row - 1]
            for wrong in ("", " ", f" {told}", f"{told} ", told.replace(" ", "  ", 1) if " " in told else "back  back"):
                self.spoilt(row, wrong, 0)
        self.refused("", 1, 0)
        self.refused("\n".join([*OVER, ""]), len(OVER) + 1, 0)
        self.refused("\n".join(["", *OVER]), 1, 0)
        self.refused("\n\n", 1, 0)

    def test_rows_that_lack_at_the_end(self):
        # What runs stands last in the moment of turn 0, and may be none.
        for many in range(1, len(OVER) - 1):
            self.refused("\n".join(OVER[:many]), many + 1, 0)
        self.assertEqual(taken_up(den(), "\n".join(OVER[:-1])).undo_count(), 4)

    def test_rows_that_lack_amid(self):
        for at, told in enumerate(OVER[:-1]):
            rows = [*OVER[:at], *OVER[at + 1:]]
            if told.split()[0] in ("runs", "over", "it", "them"):
                self.assertEqual(kept_text(taken_up(den(), "\n".join(rows))), "\n".join(rows))
            else:
                # The row behind it is of another sort, or names another one.
                word = 2 if rows[at].split()[0] == told.split()[0] else 1
                self.refused("\n".join(rows), at + 1, word)

    def test_words_of_another_sort(self):
        for row in range(1, len(OVER) + 1):
            for told in ("foo", "Turn 4", "place den", "turns 4", "7"):
                self.spoilt(row, told, 1)

    def test_words_that_lack(self):
        for row, told in enumerate(OVER, 1):
            words = told.split()
            for many in range(1, len(words)):
                if words[many] not in ("open", "worn"):
                    self.spoilt(row, " ".join(words[:many]), many + 1)

    def test_words_too_many(self):
        for row, told in enumerate(OVER, 1):
            for more in ("foo", "0", "den"):
                self.spoilt(row, f"{told} {more}", len(told.split()) + 1)

    def test_turns(self):
        for word in ("04", "00", "x", "-4", "+4", "4.0", "1234567", "1000000", "four", "4a", "_4", "\u0664"):
            self.spoilt(1, f"turn {word}", 2)
        for word in ("00", "x", "-0", "+0", "0000000"):
            self.spoilt(1, f"turn {word}", 2, rows=FIRST)
        # Six figures may stand; then the turn of the moment ahead isn't one less.
        for word in ("123456", "999999", "0", "5", "3"):
            rows = [f"turn {word}", *OVER[1:]]
            self.refused("\n".join(rows), 16 if word == "0" else 17, 1 if word == "0" else 2)

    def test_turns_of_earlier_moments(self):
        for right in range(4):
            row = OVER.index(f"turn {right}") + 1
            for turn in range(6):
                if turn != right:
                    self.spoilt(row, f"turn {turn}", 2)
            self.spoilt(row, f"turn 0{right}", 2)

    def test_no_moment_lacks(self):
        self.refused("\n".join(["turn 1", *FIRST[1:]]), len(FIRST) + 1, 0)
        self.refused("\n".join(["turn 999999", *FIRST[1:]]), len(FIRST) + 1, 0)

    def test_places(self):
        for place in ("loft", "chest", "fog", "Den", "you"):
            self.spoilt(2, f"you {place}", 2)
        self.goes(2, "you hut")

    def test_names_that_are_not_the_next_ones(self):
        self.spoilt(3, "thing coat with you", 2)
        self.spoilt(4, "thing chest at den", 2)
        self.spoilt(5, "thing foo at den", 2)
        self.spoilt(7, "thing pin with you", 2)
        self.spoilt(8, "state mood 2", 2)
        self.spoilt(9, "state luck 3", 2)
        self.spoilt(9, "state foo 3", 2)
        self.spoilt(3, OVER[3], 2)
        self.spoilt(8, "thing gate nowhere", 1)
        self.spoilt(7, "state luck 2", 1)

    def test_numbers(self):
        for word in ("10", "00", "x", "-1", "nine", "\u0661"):
            self.spoilt(8, f"state luck {word}", 3)
        for figure in range(10):
            self.goes(8, f"state luck {figure}")

    def test_wheres(self):
        for told, word in (
            ("by den", 3), ("den", 3), ("open", 3), ("at", 4), ("at loft", 4), ("at chest", 4), ("at you", 4), ("with", 4),
            ("with den", 4), ("with me", 4), ("nowhere den", 4), ("in", 4), ("in den", 4), ("in foo", 4), ("in tray", 4),
            ("in gate", 4), ("on chest", 4), ("on den", 4), ("on gate", 4), ("on pin", 4), ("in pin", 4), ("with you you", 5),
            ("at den hut", 5), ("in chest den", 5), ("in it", 4), ("on them", 4), ("in the chest", 4), ("At den", 3),
        ):
            self.spoilt(6, f"thing pin {told}", word)
        for told in ("at den", "at hut", "with you", "nowhere", "in chest", "in coat", "on tray"):
            self.goes(6, f"thing pin {told}")

    def test_doors_are_nowhere(self):
        for where in ("at den", "with you", "in chest", "on tray", "at loft", "in gate", "by den"):
            self.spoilt(7, f"thing gate {where}", 3)
            self.spoilt(7, f"thing gate {where} open", 3)
        self.goes(7, "thing gate nowhere open")

    def test_rings(self):
        self.spoilt(3, "thing chest in chest", 3)
        self.spoilt(3, "thing chest in chest foo", 3)
        self.spoilt(5, "thing tray on tray", 3)
        rows = ["turn 0", "you den", "thing chest in coat", "thing coat on tray", "thing tray at den", "thing pin on tray",
                *FIRST[6:]]
        self.goes(1, "turn 0", rows=rows)
        self.spoilt(4, "thing coat in chest", 3, rows=rows)
        self.spoilt(4, "thing coat in chest open worn", 3, rows=rows)
        self.spoilt(5, "thing tray in chest", 3, rows=rows)
        self.spoilt(5, "thing tray in coat", 3, rows=rows)
        # A thing that only leads into a ring closes none; each moment is looked at by itself.
        self.spoilt(5, "thing tray in chest", 3, rows=[*rows[:3], "thing coat on tray", *rows[4:]])
        later = ["turn 1", *rows[1:], "back", *FIRST[:2], "thing chest at den", "thing coat in chest", *FIRST[4:]]
        self.goes(1, "turn 1", rows=later)

    def test_open(self):
        self.goes(3, "thing chest at den open")
        self.goes(4, "thing coat with you worn")
        for row, told in ((5, "thing tray with you"), (6, "thing pin with you")):
            self.spoilt(row, f"{told} open", 5)
        self.spoilt(7, "thing gate nowhere open open", 5)
        self.spoilt(3, "thing chest at den shut", 5)

    def test_worn(self):
        self.goes(4, "thing coat with you open")
        self.goes(4, "thing coat with you")
        self.spoilt(4, "thing coat with you worn open", 6)
        self.spoilt(4, "thing coat with you open worn worn", 7)
        self.spoilt(4, "thing coat at den worn", 5)
        self.spoilt(4, "thing coat at den open worn", 6)
        self.spoilt(4, "thing coat nowhere worn", 4)
        self.spoilt(4, "thing coat in chest worn", 5)
        self.spoilt(5, "thing tray with you worn", 5)
        self.spoilt(3, "thing chest with you open worn", 6)
        self.spoilt(7, "thing gate nowhere worn", 4)

    def test_scenes(self):
        self.spoilt(10, "runs gust", 2)
        self.spoilt(10, "runs done", 2)
        self.spoilt(10, "runs fog gale", 3)
        self.spoilt(11, "runs fog", 2)
        self.spoilt(12, "runs gale", 2)
        self.spoilt(12, "runs fog", 2)
        self.refused("\n".join([*OVER[:9], "runs hail", "runs fog", *OVER[12:]]), 11, 2)
        self.refused("\n".join([*OVER[:9], "runs hail", "runs gale", *OVER[12:]]), 11, 2)
        rows = [*OVER[:9], "runs gale", *OVER[12:]]
        self.goes(1, "turn 4", rows=rows)

    def test_over(self):
        self.goes(13, "over gone")
        self.spoilt(13, "over", 2)
        self.spoilt(13, "over fog", 2)
        self.spoilt(13, "over done gone", 3)
        self.refused("\n".join([*OVER[:13], "over gone", *OVER[13:]]), 14, 1)
        for at, told in enumerate(OVER):
            if at > 16 and told == "it coat":
                self.refused("\n".join([*OVER[:at], "over done", *OVER[at:]]), at + 1, 1)
        self.refused("\n".join([*OVER, "over done"]), len(OVER) + 1, 1)
        self.goes(1, "turn 0", rows=[*FIRST, "over done"])

    def test_it(self):
        self.goes(14, "it gate")
        self.spoilt(14, "it", 2)
        for thing in ("foo", "den", "fog", "it", "them"):
            self.spoilt(14, f"it {thing}", 2)
        self.spoilt(14, "it coat pin", 3)
        self.refused("\n".join([*OVER[:14], "it coat", *OVER[14:]]), 15, 1)

    def test_them(self):
        self.goes(15, "them tray pin gate coat chest")
        self.spoilt(15, "them", 2)
        self.spoilt(15, "them pin", 3)
        self.spoilt(15, "them pin pin", 3)
        self.spoilt(15, "them pin tray pin", 4)
        self.spoilt(15, "them pin tray coat tray", 5)
        self.spoilt(15, "them foo pin", 2)
        self.spoilt(15, "them pin foo", 3)
        self.spoilt(15, "them pin and tray", 3)
        self.spoilt(15, "them pin tray chest coat gate pin", 7)
        self.refused("\n".join([*OVER[:15], "them pin tray", *OVER[15:]]), 16, 1)

    def test_the_order_of_rows(self):
        rows = list(OVER)
        for at, row in ((12, 13), (13, 14), (11, 13), (9, 14)):
            other = list(rows)
            other[at], other[row] = other[row], other[at]
            with self.assertRaises(BadRow) as caught:
                taken_up(den(), "\n".join(other))
            self.assertEqual(caught.exception.word, 1)
        self.refused("\n".join([*OVER[:12], OVER[13], OVER[12], *OVER[14:]]), 14, 1)
        self.refused("\n".join([*OVER[:13], OVER[14], OVER[13], *OVER[15:]]), 15, 1)
        self.refused("\n".join([*OVER[:9], OVER[12], *OVER[9:12], *OVER[13:]]), 11, 1)

    def test_rows_behind_the_moment_of_turn_0(self):
        for more in ("back", "foo", "turn 0", "over done", "runs fog foo", "state mood 3", "you den", "-"):
            word = 2 if more.startswith("runs") else 1
            self.refused("\n".join([*OVER, more]), len(OVER) + 1, word)
            self.refused("\n".join([*OVER, more, "foo"]), len(OVER) + 1, word)
        self.refused("\n".join([*FIRST, "back", *FIRST]), len(FIRST) + 1, 1)
        self.refused("\n".join([*FIRST, "it pin", "it pin"]), len(FIRST) + 2, 1)
        self.refused("\n".join([*FIRST, "them pin tray", " back"]), len(FIRST) + 2, 0)

    def test_the_first_row_alone_counts(self):
        self.refused("\n".join(["turn 4", "you loft", "thing foo", "", *OVER[4:]]), 2, 2)
        self.refused("\n".join([*OVER[:5], "thing pin in tray worn", "", *OVER[7:]]), 6, 4)

    def test_a_text_of_another_world(self):
        self.refused(kept_text(Play(manor())), 2, 2)
        self.refused("\n".join(OVER), 2, 2, world=manor())


if __name__ == "__main__":
    unittest.main()
