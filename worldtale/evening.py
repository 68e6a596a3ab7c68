"""A whole evening: a text's world, played and written down."""

from worldtale.keeping import kept_text
from worldtale.looking import look_through
from worldtale.play import Play
from worldtale.worldread import read_world


class Evening:
    """A play of the world that a text tells, and the book of all that was said."""

    def __init__(self, text):
        world = read_world(text)
        look_through(world)
        self._text = text
        self._play = Play(world)
        self._book = [("", self._play.opening())]

    def say(self, line):
        """Answers a line of anything, and writes both down."""
        lines = self._play.say(line)
        self._book.append((line if isinstance(line, str) else None, list(lines)))
        return lines

    def book(self):
        """All lines with what was answered, the opening ahead of them."""
        return [(line, list(lines)) for line, lines in self._book]

    def kept(self):
        """The kept text of the play; a question is let go by it."""
        return kept_text(self._play)

    def again(self, book):
        """Whether a new evening of the same text, told the lines of a book, tells the same book."""
        other = Evening(self._text)
        for line, _ in book[1:]:
            other.say(line)
        return other.book() == book
