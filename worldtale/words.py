"""What words, names, figures and whole numbers are, asked of anything."""

COMMANDS = ("take", "drop", "put", "open", "shut", "wear", "doff", "look", "go", "list", "wait", "undo")
DIRECTIONS = ("down", "east", "north", "south", "up", "west")
LINE_WORDS = ("the", "all", "but", "and", "then", "it", "them", "in", "on", "is", "at", "you", "with", "not", "nowhere")
TALE_WORDS = ("always", "any", "say", "set", "move", "stop")
FIGURES = "0123456789"
LONGEST_WORD = 8


def is_whole(thing):
    """Whether a thing is a whole number; True and False are none."""
    return isinstance(thing, int) and not isinstance(thing, bool)


def is_among(thing, least, most):
    """Whether a thing is a whole number from least to most."""
    if not is_whole(thing) or not is_whole(least) or not is_whole(most):
        return False
    return least <= thing <= most


def is_word(thing):
    """Whether a thing is a text of one to eight small letters."""
    if not isinstance(thing, str) or not 1 <= len(thing) <= LONGEST_WORD:
        return False
    return all(["a" <= sign <= "z" for sign in thing])


def is_reserved(thing):
    """Whether a thing is a word with a meaning of its own."""
    if not isinstance(thing, str):
        return False
    return thing in COMMANDS or thing in DIRECTIONS or thing in LINE_WORDS or thing in TALE_WORDS


def is_name(thing):
    """Whether a thing may be a name, a noun or an adjective."""
    return is_word(thing) and not is_reserved(thing)


def digit_of(word):
    """The number of a figure, or None."""
    # Asked sign by sign: Python takes figures of other scripts for numbers, too.
    if not isinstance(word, str) or len(word) != 1 or word not in FIGURES:
        return None
    return FIGURES.index(word)


def words_of(row):
    """The words of a row that stand with one blank between, or None."""
    if not isinstance(row, str):
        return None
    words = row.split(" ")
    if "" in words:
        return None
    return words
