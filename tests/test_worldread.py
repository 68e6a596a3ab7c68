"""Point 5: which row, and which word in it, reading refuses."""

import unittest

from tests.samples import HOUSE_TEXT
from worldtale.errors import BadRow
from worldtale.worldread import read_world

# Good rows, each with the words, from 1, with which a piece of it may end.
GOOD_ROWS = (
    ("place hall dark", (2, 3)),
    ("thing lamp lamp red old : at hall box clear door fixed lit shut stand wear", (8, 9, 10, 11, 12, 13, 14, 15, 16)),
    ("thing lamp lamp red : in chest lit", (7, 8)),
    ("thing lamp lamp : on table", (6,)),
    ("thing lamp lamp : with you lit", (6, 7)),
    ("thing lamp lamp : nowhere lit", (5, 6)),
    ("way hall down cellar by gate", (4, 6)),
    ("state mood 3", (3,)),
    ("rule before take lamp : not mood is 3 and lamp at hall : say it is hot and stop", (16, 17, 18, 20)),
    ("rule instead wait any : always : say one two three four five six and set mood 3", (9, 10, 11, 12, 13, 14, 18)),
    ("rule after go cellar : lamp in chest and lamp on table and lamp with you and lamp nowhere : set mood 4", (23,)),
    (
        "rule after put lamp : chest open and not cap worn and you at hall and not you at hall : move lamp at hall",
        (25,),
    ),
    (
        "every 4 : always : move lamp in chest and move lamp on table and move lamp with you and move lamp nowhere",
        (9, 14, 19, 23),
    ),
    ("scene fog : always : lamp nowhere and mood is 9", (7, 11)),
    ("scene fog : not you at hall : always", (9,)),
    ("end rich : coin on table and coin in chest", (6, 10)),
)


class Refusals(unittest.TestCase):
    def refused(self, text, row, word):
        with self.subTest(text=text):
            with self.assertRaises(BadRow) as caught:
                read_world(text)
            self.assertEqual((caught.exception.row, caught.exception.word), (row, word))

    def refused_row(self, row, word):
        """A row that is the second one, behind a place."""
        self.refused(f"place den\n{row}", 2, word)


class TestWordsOfRows(Refusals):
    def test_good_rows(self):
        for row, _ in GOOD_ROWS:
            with self.subTest(row=row):
                read_world(f"place den\n{row}")

    def test_words_that_lack(self):
        for row, ends in GOOD_ROWS:
            words = row.split(" ")
            for many in range(1, len(words) + 1):
                piece = " ".join(words[:many])
                if many in ends:
                    read_world(f"place den\n{piece}")
                else:
                    self.refused_row(piece, many + 1)

    def test_a_word_that_can_stand_nowhere(self):
        for row, _ in GOOD_ROWS:
            words = row.split(" ")
            for at in range(len(words)):
                for bad in ("Lamp", "abcdefghi", "?", "lamp1", "10", "-1", "::", "a\tb"):
                    self.refused_row(" ".join([*words[:at], bad, *words[at + 1:]]), at + 1)

    def test_a_word_behind_a_row(self):
        for row, _ in GOOD_ROWS:
            self.refused_row(f"{row} ?", len(row.split(" ")) + 1)

    def test_only_the_first_word_counts(self):
        self.refused_row("thing take Lamp", 2)
        self.refused_row("way hall back ? ?", 3)

    def test_word_one_is_no_sort(self):
        for row in ("room den", "Place den", "places den", "any", "always", "1", ":", "placeden", "plac e"):
            self.refused_row(row, 1)
            self.refused(row, 1, 1)

    def test_places(self):
        self.refused_row("place", 2)
        self.refused_row("place take", 2)
        self.refused_row("place 1", 2)
        self.refused_row("place hall lit", 3)
        self.refused_row("place hall dark dark", 4)

    def test_nouns_and_adjectives(self):
        self.refused_row("thing lamp :", 3)
        self.refused_row("thing lamp the :", 3)
        self.refused_row("thing lamp lamp the : nowhere", 4)
        self.refused_row("thing lamp lamp red red : nowhere", 5)
        self.refused_row("thing lamp lamp red in : nowhere", 5)
        self.refused_row("thing lamp lamp red old big : nowhere", 6)
        self.refused_row("thing lamp lamp red old red : nowhere", 6)
        self.refused_row("thing lamp lamp nowhere", 4)
        self.refused_row("thing lamp lamp red old", 6)

    def test_wheres(self):
        self.refused_row("thing lamp lamp : under hall", 5)
        self.refused_row("thing lamp lamp : is 3", 5)
        self.refused_row("thing lamp lamp : you", 5)
        self.refused_row("thing lamp lamp : lit", 5)
        self.refused_row("thing lamp lamp : at", 6)
        self.refused_row("thing lamp lamp : at nowhere", 6)
        self.refused_row("thing lamp lamp : in :", 6)
        self.refused_row("thing lamp lamp : on you", 6)
        self.refused_row("thing lamp lamp : with lamp", 6)
        self.refused_row("thing lamp lamp : with", 6)

    def test_traits(self):
        self.refused_row("thing lamp lamp : nowhere worn", 6)
        self.refused_row("thing lamp lamp : nowhere you", 6)
        self.refused_row("thing lamp lamp : nowhere open", 6)
        self.refused_row("thing lamp lamp : nowhere lit lit", 7)
        self.refused_row("thing lamp lamp : nowhere lit box", 7)
        self.refused_row("thing lamp lamp : at hall box wear stand", 9)
        self.refused_row("thing lamp lamp : at hall hall", 7)
        self.refused_row("thing lamp lamp : at hall : lit", 7)

    def test_ways(self):
        self.refused_row("way up hall", 2)
        self.refused_row("way hall hall", 3)
        self.refused_row("way hall left hut", 3)
        self.refused_row("way hall up down", 4)
        self.refused_row("way hall up hut gate", 5)
        self.refused_row("way hall up hut by", 6)
        self.refused_row("way hall up hut by at", 6)
        self.refused_row("way hall up hut by gate gate", 7)

    def test_states(self):
        self.refused_row("state set 3", 2)
        self.refused_row("state 3", 2)
        self.refused_row("state mood", 3)
        self.refused_row("state mood mood", 3)
        self.refused_row("state mood 10", 3)
        self.refused_row("state mood 03", 3)
        self.refused_row("state mood 3 3", 4)

    def test_heads_of_rules(self):
        self.refused_row("rule take any : always : say so", 2)
        self.refused_row("rule behind take any : always : say so", 2)
        for verb in ("look", "list", "undo", "up", "lamp", "say", "set", "move"):
            self.refused_row(f"rule before {verb} any : always : say so", 3)
        self.refused_row("rule before take : always : say so", 4)
        self.refused_row("rule before take all : always : say so", 4)
        self.refused_row("rule before take red lamp : always : say so", 5)
        self.refused_row("rule before take any always : say so", 5)
        self.refused_row("rule before take any : always say so", 7)
        self.refused_row("rule before take any : always", 7)
        self.refused_row("rule before take any : always :", 8)
        self.refused_row("rule before take any : : say so", 6)

    def test_everies(self):
        self.refused_row("every 0 : always : say so", 2)
        self.refused_row("every 5 : always : say so", 2)
        self.refused_row("every one : always : say so", 2)
        self.refused_row("every 11 : always : say so", 2)
        self.refused_row("every : always : say so", 2)
        self.refused_row("every 1 always : say so", 3)
        self.refused_row("every 1 : say so", 4)
        self.refused_row("every 1 : always : always", 6)

    def test_scenes_and_ends(self):
        self.refused_row("scene and : always : always", 2)
        self.refused_row("scene fog always : always", 3)
        self.refused_row("scene fog : always", 5)
        self.refused_row("scene fog : always :", 6)
        self.refused_row("scene fog : always : say so", 6)
        self.refused_row("scene fog : always : always : always", 7)
        self.refused_row("scene fog : always : always : say so", 7)
        self.refused_row("end end", 3)
        self.refused_row("end not : always", 2)
        self.refused_row("end won :", 4)
        self.refused_row("end won : always always", 5)
        self.refused_row("end won : always : always", 5)


class TestConditions(Refusals):
    def refused_conditions(self, text, word):
        """Conditions, and the word in them, in each sort of row that has some."""
        self.refused_row(f"end won : {text}", word + 3)
        self.refused_row(f"scene fog : {text} : always", word + 3)
        self.refused_row(f"scene fog : always : {text}", word + 5)
        self.refused_row(f"every 1 : {text} : say so", word + 3)
        self.refused_row(f"rule after take any : {text} : say so", word + 5)

    def test_always_stands_alone(self):
        self.refused_conditions("not always", 2)
        self.refused_conditions("always and lamp open", 2)
        self.refused_conditions("lamp open and always", 4)
        self.refused_conditions("always lamp open", 2)

    def test_not_stands_once_ahead(self):
        self.refused_conditions("not not lamp open", 2)
        self.refused_conditions("lamp not open", 2)
        self.refused_conditions("not and lamp open", 2)

    def test_one_to_four(self):
        self.refused_conditions("and lamp open", 1)
        self.refused_conditions("lamp open and and lamp open", 4)
        self.refused_conditions("lamp open lamp open", 3)
        self.refused_conditions("a open and b worn and c nowhere and d is 1 and e open", 13)
        self.refused_conditions("not a open and not b open and not c open and not d open and e open", 16)

    def test_each_sort(self):
        self.refused_conditions("mood is 10 and a open", 3)
        self.refused_conditions("mood is lamp", 3)
        self.refused_conditions("mood 3", 2)
        self.refused_conditions("lamp at you", 3)
        self.refused_conditions("lamp in nowhere", 3)
        self.refused_conditions("lamp on 3", 3)
        self.refused_conditions("lamp with lamp", 3)
        self.refused_conditions("lamp with you you", 4)
        self.refused_conditions("lamp nowhere nowhere", 3)
        self.refused_conditions("lamp shut", 2)
        self.refused_conditions("lamp is worn", 3)
        self.refused_conditions("lamp lit", 2)
        self.refused_conditions("you in hall", 2)
        self.refused_conditions("you nowhere", 2)
        self.refused_conditions("you at you", 3)
        self.refused_conditions("it open", 1)

    def test_words_that_lack_in_the_last_ones(self):
        for text, word in (("not", 2), ("lamp", 2), ("lamp at", 3), ("mood is", 3), ("you", 2), ("you at", 3),
                           ("lamp with", 3), ("lamp open and", 4), ("lamp open and not", 5), ("always and", 2)):
            self.refused_row(f"end won : {text}", word + 3)
            self.refused_row(f"scene fog : always : {text}", word + 5)
            self.refused_row(f"every 1 : {text} : say so", word + 3)


class TestEffects(Refusals):
    def refused_effects(self, text, word):
        """Effects, and the word in them, in each sort of row that has some."""
        self.refused_row(f"every 1 : always : {text}", word + 5)
        for book in ("before", "instead", "after"):
            self.refused_row(f"rule {book} take any : always : {text}", word + 7)

    def test_say(self):
        self.refused_effects("say", 2)
        self.refused_effects("say and say so", 2)
        self.refused_effects("say one and", 4)
        self.refused_effects("say one two three four five six seven", 8)
        self.refused_effects("say one two three four five six : and", 8)
        self.refused_effects("say 1", 2)
        self.refused_effects("say so : so", 3)
        self.refused_effects("say hello wonderful", 3)

    def test_set(self):
        self.refused_effects("set", 2)
        self.refused_effects("set say 3", 2)
        self.refused_effects("set mood", 3)
        self.refused_effects("set mood is 3", 3)
        self.refused_effects("set mood 12", 3)
        self.refused_effects("set mood 3 mood", 4)

    def test_move(self):
        self.refused_effects("move", 2)
        self.refused_effects("move it at hall", 2)
        self.refused_effects("move lamp", 3)
        self.refused_effects("move lamp hall", 3)
        self.refused_effects("move lamp at", 4)
        self.refused_effects("move lamp with lamp", 4)
        self.refused_effects("move lamp nowhere lit", 4)

    def test_stop_in_before_rules_alone(self):
        self.refused_row("every 1 : always : stop", 6)
        self.refused_row("every 1 : always : say so and stop", 9)
        self.refused_row("rule instead take any : always : stop", 8)
        self.refused_row("rule after take any : always : stop", 8)
        self.refused_row("rule after take any : always : set mood 3 and stop", 12)
        self.refused_row("rule before take any : always : stop stop", 9)
        self.refused_row("rule before take any : always : stop say so", 9)

    def test_one_to_four(self):
        self.refused_effects("always", 1)
        self.refused_effects("and say so", 1)
        self.refused_effects("doff lamp", 1)
        self.refused_effects("set mood 1 set mood 2", 4)
        self.refused_effects("say a and say b and say c and say d and say e", 12)
        self.refused_effects("set a 1 and set b 1 and set c 1 and set d 1 and", 16)
        self.refused_row("rule before go any : always : stop and stop and stop and stop and stop", 15)


class TestRowsThemselves(Refusals):
    def test_a_row_without_words(self):
        for row in ("", " ", " place hall", "place hall ", "place  hall", "  ", "place hall  dark"):
            self.refused(row, 1, 0)
            self.refused_row(row, 0)
            self.refused(f"place hall\n{row}\nplace hut", 2, 0)

    def test_a_text_that_ends_with_a_line_end(self):
        self.refused("place hall\n", 2, 0)
        self.refused(HOUSE_TEXT + "\n", len(HOUSE_TEXT.split("\n")) + 1, 0)

    def test_a_row_that_comes_too_late(self):
        rows = ("place a", "thing a b : nowhere", "way a up b", "state a 1", "rule after take any : always : say so",
                "every 1 : always : say so", "scene a : always : always", "end a : always")
        for late in range(len(rows)):
            for early in range(late):
                ahead = [] if early == 0 else [rows[0]]
                self.refused("\n".join([*ahead, rows[late], rows[early]]), len(ahead) + 2, 0)
            if late < len(rows) - 1:
                self.refused("\n".join([*rows, rows[late]]), len(rows) + 1, 0)

    def test_too_late_goes_ahead_of_its_words(self):
        self.refused("place a\nstate a 1\nthing", 3, 0)
        self.refused("place a\nend a : always\nplace TAKE 4", 3, 0)

    def test_one_too_many_of_each_sort(self):
        most = (("place a", 8), ("thing a b : nowhere", 12), ("way a up b", 16), ("state a 1", 6),
                ("rule after take any : always : say so", 16), ("every 1 : always : say so", 2),
                ("scene a : always : always", 4), ("end a : always", 4))
        for row, many in most:
            ahead = [] if row == "place a" else ["place a"]
            read_world("\n".join([*ahead, *[row] * many]))
            self.refused("\n".join([*ahead, *[row] * (many + 1)]), len(ahead) + many + 1, 0)
            self.refused("\n".join([*ahead, *[row] * (many + 9)]), len(ahead) + many + 1, 0)
            sort = row.split(" ")[0]
            self.refused("\n".join([*ahead, *[row] * many, f"{sort} ?"]), len(ahead) + many + 1, 0)

    def test_a_text_without_a_place(self):
        self.refused("", 1, 0)
        self.refused("thing a b : nowhere", 2, 0)
        self.refused("state a 1\nend a : always", 3, 0)
        self.refused("state a 1\nend a", 2, 3)
        self.refused("state a 1\nplace a", 2, 0)

    def test_the_first_row_counts(self):
        self.refused("place hall\nplace take\nthing", 2, 2)
        self.refused("place hall\nplace\nroom", 2, 2)

    def test_what_is_no_text(self):
        for thing in (None, True, False, 0, 7, [], ["place hall"], ("place hall",), {}, set(), b"place hall", object()):
            self.refused(thing, 1, 0)

    def test_names_need_not_be_there(self):
        told = read_world("place a\nthing b c : in d\nway x up y by z\nrule after wait any : e open : set f 1").told()
        self.assertEqual(told[2], [("x", "up", "y", "z")])

    def test_what_looking_refuses_is_read(self):
        told = read_world("place a\nplace a\nway a up a\nend a : b open and not b open").told()
        self.assertEqual(told[0], [("a", False), ("a", False)])

    def test_each_reading_is_anew(self):
        read_world("place a\nplace b")
        self.assertEqual(read_world("place a").told()[0], [("a", False)])


if __name__ == "__main__":
    unittest.main()
