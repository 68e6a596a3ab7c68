"""Parts a line into its clauses."""

from worldtale.cursor import Cursor
from worldtale.errors import BadCommand, BadRow
from worldtale.words import COMMANDS, DIRECTIONS, is_name, is_word, words_of

MOST_WORDS = 40
MOST_CLAUSES = 8
MOST_NOUNS = 3
MOST_NOUN_WORDS = 4
LONE_VERBS = ("look", "list", "wait", "undo")


class Clause:
    """One clause of a line. It is made by clauses_of alone."""

    def __init__(self, verb, what, link, holder):
        self.verb = verb
        self.what = what
        self.link = link
        self.holder = holder

    def told(self):
        """The clause as a tuple."""
        return (self.verb, self.what, self.link, self.holder)


def clauses_of(line):
    """The clauses of a line; BadCommand of anything that is none."""
    words = words_of(line)
    if words is None or len(words) > MOST_WORDS or not all([is_word(word) for word in words]):
        raise BadCommand(0)
    try:
        return read_clauses(Cursor(1, words))
    except BadRow as refusal:
        raise BadCommand(refusal.word) from None


def read_clauses(cursor):
    found = [read_clause(cursor)]
    while len(found) < MOST_CLAUSES and cursor.skip("then"):
        found.append(read_clause(cursor))
    cursor.finish()
    return found


def read_clause(cursor):
    verb = cursor.take_one_of((*COMMANDS, *DIRECTIONS))
    if verb in DIRECTIONS:
        return Clause("go", verb, "", None)
    if verb == "go":
        return Clause(verb, cursor.take_one_of(DIRECTIONS), "", None)
    if verb in LONE_VERBS:
        return Clause(verb, "", "", None)
    phrase = read_phrase(cursor)
    if verb != "put":
        return Clause(verb, phrase, "", None)
    link = cursor.take_one_of(("in", "on"))
    return Clause(verb, phrase, link, read_holder(cursor))


def read_phrase(cursor):
    if cursor.peek() in ("it", "them"):
        return (cursor.take_next(),)
    if cursor.skip("all"):
        return ("all", read_nouns(cursor) if cursor.skip("but") else ())
    return ("some", read_nouns(cursor))


def read_holder(cursor):
    if cursor.skip("it"):
        return ("it",)
    return ("one", read_noun(cursor))


def read_nouns(cursor):
    found = [read_noun(cursor)]
    while len(found) < MOST_NOUNS and cursor.skip("and"):
        found.append(read_noun(cursor))
    return tuple(found)


def read_noun(cursor):
    """The words of one NOUN, without "the"."""
    cursor.skip("the")
    found = [cursor.take_name()]
    # Until a further word comes the last one is the noun, which may be like one ahead of it.
    while len(found) < MOST_NOUN_WORDS and are_unlike(found) and is_name(cursor.peek()):
        found.append(cursor.take_next())
    return tuple(found)


def are_unlike(words):
    return len(set(words)) == len(words)
