"""Point 1, and whole numbers of point 0."""

import unittest

from tests.samples import Alike
from worldtale.words import digit_of, is_among, is_name, is_reserved, is_whole, is_word, words_of

RESERVED = (
    "take drop put open shut wear doff look go list wait undo "
    "down east north south up west "
    "the all but and then it them in on is at you with not nowhere "
    "always any say set move stop"
).split()

NO_TEXTS = (None, True, False, 0, 1, -3, [], ["a"], (), ("a",), {}, {"a": 1}, set(), b"a", object(), len, str,
            Alike())


class TestWhole(unittest.TestCase):
    def test_whole_numbers(self):
        for thing in (0, 1, -1, 9, 10, -400, 10**40):
            self.assertIs(is_whole(thing), True)

    def test_what_is_none(self):
        for thing in (True, False, None, "", "1", "a", [], [1], (1,), {}, {1: 1}, b"1", object(), int):
            self.assertIs(is_whole(thing), False)


class TestAmong(unittest.TestCase):
    def test_bounds_are_in(self):
        for thing in (2, 3, 4):
            self.assertIs(is_among(thing, 2, 4), True)
        for thing in (-2, -1, 0, 1, 5, 50):
            self.assertIs(is_among(thing, 2, 4), False)

    def test_one_and_none(self):
        self.assertIs(is_among(0, 0, 0), True)
        self.assertIs(is_among(-5, -7, -5), True)
        self.assertIs(is_among(3, 4, 2), False)

    def test_what_is_no_whole_number(self):
        for thing in (True, False, None, "", "1", "a", [], [1], (1,), {}, b"1", object(), int):
            self.assertIs(is_among(thing, 0, 9), False)

    def test_bounds_of_anything(self):
        for bound in (None, "1", [], True, False):
            self.assertIs(is_among(1, bound, 9), False)
            self.assertIs(is_among(0, 0, bound), False)


class TestWord(unittest.TestCase):
    def test_lengths(self):
        self.assertIs(is_word(""), False)
        self.assertIs(is_word("a"), True)
        self.assertIs(is_word("z"), True)
        self.assertIs(is_word("abcdefgh"), True)
        self.assertIs(is_word("abcdefghi"), False)

    def test_each_small_letter(self):
        for sign in "abcdefghijklmnopqrstuvwxyz":
            self.assertIs(is_word(sign), True)
            self.assertIs(is_word("a" + sign), True)

    def test_other_signs(self):
        for number in range(32, 127):
            sign = chr(number)
            if sign in "abcdefghijklmnopqrstuvwxyz":
                continue
            for text in (sign, "a" + sign, sign + "a", "a" + sign + "a"):
                self.assertIs(is_word(text), False)
        for text in ("a\n", "\na", "a\nb", "\n", "a b", "Lamp", "lamP", "LAMP", "lamp1"):
            self.assertIs(is_word(text), False)

    def test_reserved_ones_are_words(self):
        for word in RESERVED:
            self.assertIs(is_word(word), True)

    def test_anything(self):
        for thing in NO_TEXTS:
            self.assertIs(is_word(thing), False)


class TestReserved(unittest.TestCase):
    def test_each_of_them(self):
        self.assertEqual(len(RESERVED), 39)
        for word in RESERVED:
            with self.subTest(word=word):
                self.assertIs(is_reserved(word), True)
                self.assertIs(is_name(word), False)

    def test_others(self):
        for word in ("lamp", "by", "dark", "box", "clear", "door", "fixed", "lit", "stand", "worn", "rule", "place",
                     "thing", "way", "state", "every", "scene", "end", "before", "instead", "after", "taken", "tak",
                     "a", "an", "or", "to", "me", "runs", "over", "back"):
            with self.subTest(word=word):
                self.assertIs(is_reserved(word), False)
                self.assertIs(is_name(word), True)

    def test_no_words(self):
        for text in ("", "Take", "take ", " take", "take drop", "\n", "1"):
            self.assertIs(is_reserved(text), False)

    def test_anything(self):
        for thing in NO_TEXTS:
            self.assertIs(is_reserved(thing), False)


class TestName(unittest.TestCase):
    def test_lengths(self):
        self.assertIs(is_name(""), False)
        self.assertIs(is_name("q"), True)
        self.assertIs(is_name("qwertyui"), True)
        self.assertIs(is_name("qwertyuio"), False)

    def test_no_words(self):
        for text in ("Lamp", "a b", "a\nb", "a1", "1", "-", "a-b"):
            self.assertIs(is_name(text), False)

    def test_anything(self):
        for thing in NO_TEXTS:
            self.assertIs(is_name(thing), False)


class TestDigit(unittest.TestCase):
    def test_each_figure(self):
        for number in range(10):
            told = digit_of(str(number))
            self.assertEqual(told, number)
            self.assertIs(type(told), int)

    def test_other_signs(self):
        for number in range(128):
            if chr(number) not in "0123456789":
                self.assertIsNone(digit_of(chr(number)))

    def test_no_figures(self):
        for text in ("", "10", "00", "01", "-1", "+1", " 1", "1 ", "a", "1\n", "o", ".", "/", ":", "one"):
            self.assertIsNone(digit_of(text))

    def test_anything(self):
        for thing in (*NO_TEXTS, 5, 9, ["1"], b"1"):
            self.assertIsNone(digit_of(thing))


class TestWordsOf(unittest.TestCase):
    def test_words(self):
        self.assertEqual(words_of("a"), ["a"])
        self.assertEqual(words_of("place hall dark"), ["place", "hall", "dark"])

    def test_a_row_without_words(self):
        for row in ("", " ", "  ", " a", "a ", "a  b", "a b  c", " a b", "a b ", "a   b"):
            self.assertIsNone(words_of(row))

    def test_blanks_alone_part(self):
        self.assertEqual(words_of("a\nb c"), ["a\nb", "c"])
        self.assertEqual(words_of("\n"), ["\n"])
        self.assertEqual(words_of("a \n"), ["a", "\n"])
        self.assertEqual(words_of("A1,x : 3"), ["A1,x", ":", "3"])

    def test_anything(self):
        for thing in NO_TEXTS:
            self.assertIsNone(words_of(thing))

    def test_the_list_is_the_askers_own(self):
        told = words_of("a b")
        told.append("c")
        self.assertEqual(words_of("a b"), ["a", "b"])


if __name__ == "__main__":
    unittest.main()
