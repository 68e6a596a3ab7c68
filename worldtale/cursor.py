"""Reads the words of one row, one after another."""

from worldtale.errors import BadRow
from worldtale.words import digit_of, is_among, is_name


class Cursor:
    """The words of a row, and how far it is read; the first word that can't stand is refused."""

    def __init__(self, row, words):
        self._row = row
        self._words = list(words)
        self._at = 0

    def refuse(self):
        """The next word can't stand here, or lacks."""
        self.refuse_at(self._at + 1)

    def refuse_at(self, word):
        """This word can't stand, though it is read already."""
        raise BadRow(self._row, word)

    def refuse_row(self):
        """The row can't stand here, whatever its words are."""
        self.refuse_at(0)

    def peek(self):
        """The next word, or the empty text behind the last one, as no word is empty."""
        return self._words[self._at] if self._at < len(self._words) else ""

    def take_next(self):
        """The next word, which is read by this."""
        word = self.peek()
        self._at += 1
        return word

    def skip(self, word):
        """Reads this word if it is the next one; whether it was."""
        if self.peek() != word:
            return False
        self._at += 1
        return True

    def take_word(self, word):
        """Reads this word alone."""
        if not self.skip(word):
            self.refuse()

    def take_one_of(self, words):
        """Reads one of these words."""
        if self.peek() not in words:
            self.refuse()
        return self.take_next()

    def take_name(self):
        """Reads a name."""
        if not is_name(self.peek()):
            self.refuse()
        return self.take_next()

    def take_figure(self, least, most):
        """Reads a figure from least to most, as its number."""
        number = digit_of(self.peek())
        if not is_among(number, least, most):
            self.refuse()
        self._at += 1
        return number

    def finish(self):
        """Nothing stands behind what was read."""
        if self._at < len(self._words):
            self.refuse()
