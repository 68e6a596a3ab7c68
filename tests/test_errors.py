"""The errors of the interface."""

import unittest

from worldtale import errors
from worldtale.errors import BadCommand, BadRow, BadState, BadWorld, OutOfPlace, TaleError, TooGreat

ALL = (BadRow, BadWorld, BadCommand, BadState, OutOfPlace, TooGreat)


class TestErrors(unittest.TestCase):
    def test_tale_error_is_a_value_error(self):
        self.assertEqual(TaleError.__bases__, (ValueError,))

    def test_each_stands_straight_under_tale_error(self):
        for error in ALL:
            with self.subTest(error=error):
                self.assertEqual(error.__bases__, (TaleError,))
                self.assertTrue(issubclass(error, ValueError))

    def test_none_stands_under_another(self):
        for error in ALL:
            for other in ALL:
                if error is not other:
                    self.assertFalse(issubclass(error, other))

    def test_each_is_defined_in_its_file(self):
        for error in (TaleError, *ALL):
            self.assertEqual(error.__module__, "worldtale.errors")
            self.assertIs(getattr(errors, error.__name__), error)

    def test_bad_row_has_its_fields(self):
        error = BadRow(3, 0)
        self.assertEqual((error.row, error.word), (3, 0))
        error = BadRow(row=4, word=7)
        self.assertEqual((error.row, error.word), (4, 7))

    def test_bad_world_has_its_fields(self):
        error = BadWorld("ring", "box")
        self.assertEqual((error.what, error.name), ("ring", "box"))
        error = BadWorld(what="door", name="every")
        self.assertEqual((error.what, error.name), ("door", "every"))

    def test_bad_command_has_its_field(self):
        self.assertEqual(BadCommand(5).word, 5)
        self.assertEqual(BadCommand(word=0).word, 0)

    def test_errors_of_a_text(self):
        for error in (TaleError, BadState, OutOfPlace, TooGreat):
            self.assertEqual(str(error("so it is")), "so it is")

    def test_each_is_caught_as_any_refusal(self):
        made = (BadRow(1, 1), BadWorld("way", "up"), BadCommand(1), BadState("a"), OutOfPlace("b"), TooGreat("c"))
        for error in made:
            with self.assertRaises(TaleError):
                raise error
            with self.assertRaises(ValueError):
                raise error

    def test_those_with_fields_tell_a_text(self):
        for error in (BadRow(1, 1), BadWorld("way", "up"), BadCommand(1)):
            self.assertNotEqual(str(error), "")


if __name__ == "__main__":
    unittest.main()
