"""Point 40: lines, their clauses, and the first word that can't stand."""

import functools
import itertools
import random
import unittest

from tests.samples import Alike
from worldtale.command import Clause, clauses_of
from worldtale.errors import BadCommand
from worldtale.words import is_name

LONE = ("look", "list", "wait", "undo")
DIRECTIONS = ("down", "east", "north", "south", "up", "west")
THING_VERBS = ("take", "drop", "open", "shut", "wear", "doff")
LAMP = ("some", (("lamp",),))

# What the document says of lines, asked of whole lists of words, as plainly as can be.


def cuts(words, word):
    return [at for at, other in enumerate(words) if other == word]


def parted(words, word):
    """The lists of words between each two of a word."""
    found, left = [], []
    for other in words:
        if other == word:
            found.append(left)
            left = []
        else:
            left = [*left, other]
    return [*found, left]


def is_noun(words):
    words = words[1:] if words[:1] == ["the"] else words
    names = 1 <= len(words) <= 4 and all([is_name(word) for word in words])
    return names and len(set(words[:-1])) == len(words[:-1])


def are_nouns(words):
    nouns = parted(words, "and")
    return len(nouns) <= 3 and all([is_noun(noun) for noun in nouns])


def is_phrase(words):
    if words in (["it"], ["them"], ["all"]):
        return True
    return are_nouns(words[2:]) if words[:2] == ["all", "but"] else are_nouns(words)


def is_clause(words):
    if len(words) == 1 and words[0] in (*LONE, *DIRECTIONS):
        return True
    if words[:1] == ["go"]:
        return len(words) == 2 and words[1] in DIRECTIONS
    if words[:1] != ["put"]:
        return len(words) > 1 and words[0] in THING_VERBS and is_phrase(words[1:])
    return any([
        is_phrase(words[1:at]) and (words[at + 1:] == ["it"] or is_noun(words[at + 1:]))
        for at in [*cuts(words, "in"), *cuts(words, "on")]
    ])


def is_line(words):
    clauses = parted(words, "then")
    return len(words) <= 40 and len(clauses) <= 8 and all([is_clause(clause) for clause in clauses])


ENDINGS = [ending.split() for ending in ("", "look", "lamp", "up", "it", "on it", "lamp on it")]


@functools.cache
def can_begin(words):
    """Whether a line begins with these words, a tuple."""
    return any(is_line([*words, *ending]) for ending in ENDINGS)


def wrong_word(words):
    """The number of the first word that can't stand, 0 of a line."""
    for at in range(len(words)):
        if not can_begin(tuple(words[:at + 1])):
            return at + 1
    return 0 if is_line(words) else len(words) + 1


def told(line):
    return [clause.told() for clause in clauses_of(line)]


class TestClauses(unittest.TestCase):
    def test_lone_verbs(self):
        for verb in LONE:
            self.assertEqual(told(verb), [(verb, "", "", None)])

    def test_going(self):
        for direction in DIRECTIONS:
            self.assertEqual(told(direction), [("go", direction, "", None)])
            self.assertEqual(told(f"go {direction}"), [("go", direction, "", None)])

    def test_verbs_of_things(self):
        for verb in THING_VERBS:
            self.assertEqual(told(f"{verb} lamp"), [(verb, LAMP, "", None)])
            self.assertEqual(told(f"{verb} it"), [(verb, ("it",), "", None)])
            self.assertEqual(told(f"{verb} them"), [(verb, ("them",), "", None)])
            self.assertEqual(told(f"{verb} all"), [(verb, ("all", ()), "", None)])

    def test_nouns(self):
        for words, noun in (
            ("lamp", ("lamp",)),
            ("the lamp", ("lamp",)),
            ("red lamp", ("red", "lamp")),
            ("the big old red lamp", ("big", "old", "red", "lamp")),
            ("lamp lamp", ("lamp", "lamp")),
            ("red lamp red", ("red", "lamp", "red")),
            ("a b c a", ("a", "b", "c", "a")),
            ("the mansions", ("mansions",)),
        ):
            self.assertEqual(told(f"take {words}"), [("take", ("some", (noun,)), "", None)])

    def test_phrases(self):
        for words, what in (
            ("lamp and cup", ("some", (("lamp",), ("cup",)))),
            ("the red lamp and cup and the old cap", ("some", (("red", "lamp"), ("cup",), ("old", "cap")))),
            ("lamp and lamp and lamp", ("some", (("lamp",),) * 3)),
            ("all but lamp", ("all", (("lamp",),))),
            ("all but the red lamp and cup and cap", ("all", (("red", "lamp"), ("cup",), ("cap",)))),
        ):
            self.assertEqual(told(f"drop {words}"), [("drop", what, "", None)])
            self.assertEqual(told(f"put {words} on it"), [("put", what, "on", ("it",))])

    def test_putting(self):
        for link in ("in", "on"):
            self.assertEqual(told(f"put lamp {link} chest"), [("put", LAMP, link, ("one", ("chest",)))])
            self.assertEqual(told(f"put it {link} the big old chest"),
                             [("put", ("it",), link, ("one", ("big", "old", "chest")))])
            self.assertEqual(told(f"put them {link} it"), [("put", ("them",), link, ("it",))])
            self.assertEqual(told(f"put all {link} it"), [("put", ("all", ()), link, ("it",))])

    def test_several(self):
        self.assertEqual(
            told("take lamp and cup then put them in box then go up then west then look"),
            [("take", ("some", (("lamp",), ("cup",))), "", None), ("put", ("them",), "in", ("one", ("box",))),
             ("go", "up", "", None), ("go", "west", "", None), ("look", "", "", None)],
        )
        self.assertEqual(told("look then look"), [("look", "", "", None)] * 2)

    def test_fields(self):
        clause = clauses_of("put all but lamp in the old chest")[0]
        self.assertIs(type(clause), Clause)
        self.assertEqual((clause.verb, clause.what, clause.link, clause.holder),
                         ("put", ("all", (("lamp",),)), "in", ("one", ("old", "chest"))))
        self.assertEqual(clause.told(), (clause.verb, clause.what, clause.link, clause.holder))
        self.assertIsNone(clauses_of("up")[0].holder)

    def test_the_asker_s_own(self):
        found = clauses_of("look then up")
        self.assertIs(type(found), list)
        found.clear()
        self.assertEqual(told("look then up"), [("look", "", "", None), ("go", "up", "", None)])

    def test_each_thing_is_in_its_file(self):
        self.assertEqual((Clause.__module__, clauses_of.__module__), ("worldtale.command",) * 2)
        self.assertIn("told", vars(Clause))


class TestNoLines(unittest.TestCase):
    def refused(self, line, word):
        with self.subTest(line=line):
            with self.assertRaises(BadCommand) as caught:
                clauses_of(line)
            self.assertIs(type(caught.exception), BadCommand)
            self.assertEqual(caught.exception.word, word)

    def test_what_is_no_text(self):
        for line in (None, True, False, 0, 1, [], ["look"], (), ("look",), {}, set(), b"look", object(), Alike()):
            self.refused(line, 0)

    def test_blanks(self):
        for line in ("", " ", "  ", " look", "look ", "take  lamp", "look then  look", " take lamp", "take lamp "):
            self.refused(line, 0)

    def test_forty_words_and_more(self):
        forty = "take a b c d and a b c d and a b c d then " * 2 + "drop all but the a b c d"
        self.assertEqual(len(forty.split()), 40)
        self.assertEqual(len(clauses_of(forty)), 3)
        self.refused(f"{forty} and", 0)
        self.refused(f"{forty} then", 0)
        self.refused(forty.replace("but the", "but") + " and", 41)
        self.refused(forty.replace("but the", "but") + " b", 40)
        self.refused(" ".join(["look"] * 40), 2)
        self.refused(" ".join(["look"] * 41), 0)
        self.refused(" ".join(["LOOK"] * 41), 0)

    def test_eight_clauses_and_nine(self):
        eight = " then ".join(["up"] * 8)
        self.assertEqual(len(clauses_of(eight)), 8)
        self.refused(f"{eight} then up", 16)
        self.refused(f"{eight} then", 16)
        self.refused(f"{eight} up", 16)
        eight = " then ".join(["take it"] * 8)
        self.assertEqual(len(clauses_of(eight)), 8)
        self.refused(f"{eight} then take it", 24)

    def test_words_that_lack(self):
        for line in ("go", "take", "take the", "take all but", "take all but the", "take lamp and", "take lamp and the",
                     "put", "put lamp", "put all", "put them", "put it in", "put lamp on", "put lamp in the",
                     "look then", "up then", "go up then take", "take lamp then", "put all but lamp"):
            self.refused(line, len(line.split()) + 1)

    def test_words_too_many(self):
        for line in ("look look", "list it", "wait up", "undo undo", "go up up", "up up", "up lamp", "take it it",
                     "take it lamp", "take them and", "take all lamp", "take all and", "take all the", "look and",
                     "take lamp in", "drop lamp on", "put it in it it", "put it in it and", "put it in chest and",
                     "put it in chest in", "put lamp in all", "put lamp in them", "look the"):
            self.refused(line, len(line.split()))

    def test_words_that_can_not_stand(self):
        for line, word in (
            ("lamp", 1), ("the lamp", 1), ("it", 1), ("then", 1), ("then look", 1), ("and look", 1), ("say hat", 1),
            ("move lamp", 1), ("set mood", 1), ("stop", 1), ("always", 1), ("in", 1),
            ("go lamp", 2), ("go go up", 2), ("go the up", 2), ("go it", 2), ("take take", 2), ("take look", 2),
            ("take up", 2), ("take then look", 2), ("take and lamp", 2), ("take in lamp", 2), ("take any", 2),
            ("take the the lamp", 3), ("take the it", 3), ("take the all", 3), ("take the red the lamp", 4),
            ("take red you", 3), ("take lamp but cup", 3), ("take lamp and it", 4), ("take lamp and all", 4),
            ("take all but it", 4), ("take all but all", 4), ("take all but them", 4), ("take it and lamp", 3),
            ("take lamp and and cup", 4), ("take lamp and then look", 4), ("look then then look", 3),
            ("put lamp at chest", 3), ("put lamp then look", 3), ("put in chest", 2), ("put lamp in in chest", 4),
            ("put lamp with it", 3), ("put lamp and cup and cap and pin in it", 7),
            ("take lamp and cup and cap and pin", 7), ("take all but a and b and c and d", 9),
            ("undo then go up then doff", 7),
        ):
            self.refused(line, word)

    def test_words_ahead_of_a_noun_are_unlike(self):
        self.refused("take red red lamp", 4)
        self.refused("take the red red lamp", 5)
        self.refused("take red old red lamp", 5)
        self.refused("take old red red lamp", 5)
        self.refused("take lamp and red red lamp", 6)
        self.refused("put lamp in red red chest", 6)
        self.refused("take a b c d e", 6)
        self.refused("take the a b c d e", 7)
        self.refused("take a b c a a", 6)
        self.assertEqual(told("take red red and red red"), [("take", ("some", (("red", "red"),) * 2), "", None)])

    def test_words_not_of_one_to_eight_small_letters(self):
        for word in ("Lamp", "LAMP", "lamp1", "7", "lamp,", "lamp.", "mansionss", "lamp\n", "\n", "re-d", ":", "lamp:look"):
            for line in (f"take {word}", f"take red {word}", word, f"look {word}", f"put lamp in {word}", f"{word} lamp",
                         f"look then {word} then up", f"take take {word}"):
                self.refused(line, 0)
        for line in ("Look", "loOk", "look,", "take lamp\nlook", "GO up", "go Up", "take abcdefghi", "abcdefghi"):
            self.refused(line, 0)

    def test_what_is_no_word_counts_wherever_it_stands(self):
        self.refused("drop all but the big quill abcdefgh cup and lantern abcdefgh cup key 7", 0)
        self.refused("drop all but the big quill abcdefgh cup and lantern abcdefgh cup key cup", 14)
        self.refused("lamp lamp lamp 7", 0)
        self.refused("lamp lamp lamp lamp", 1)
        self.refused(" then ".join(["up"] * 8) + " then 7", 0)
        self.refused(" ".join(["up"] * 39) + " 7", 0)
        self.assertEqual(told("take abcdefgh"), [("take", ("some", (("abcdefgh",),)), "", None)])

    def test_all_short_rows_of_words(self):
        vocabulary = ("look", "go", "up", "take", "put", "the", "it", "all", "but", "and", "then", "in", "lamp")
        rows = [(word,) for word in vocabulary]
        for _ in range(4):
            for words in rows:
                self.same_as_told(words)
            # Behind a word that can't stand no other one is the first.
            rows = [(*words, word) for words in rows if can_begin(words) for word in vocabulary]

    def test_many_longer_rows_of_words(self):
        dice = random.Random(40)
        for _ in range(400):
            many = dice.randrange(5, 30)
            words = ["take" if dice.random() < 0.5 else "put"]
            while len(words) < many:
                words.append(dice.choice(("lamp", "red", "old", "in", "and", "then", "take", "the", "it", "all", "but")))
                # A wrong word is mostly taken back, so that the right ones become many.
                if not can_begin(tuple(words)) and dice.random() < 0.95:
                    words.pop()
            self.same_as_told(words)

    def same_as_told(self, words):
        wrong = wrong_word(words)
        try:
            clauses_of(" ".join(words))
            self.assertEqual(wrong, 0, words)
        except BadCommand as refusal:
            self.assertEqual(refusal.word, wrong, words)


if __name__ == "__main__":
    unittest.main()
