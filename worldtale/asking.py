"""What one player said so far, and what is meant by it."""

from worldtale.command import clauses_of
from worldtale.errors import BadCommand
from worldtale.phrases import fits_answer, known_words, seen_fits
from worldtale.ranks import all_meant, best_readings
from worldtale.readings import all_readings, but_nouns, holder_nouns, phrase_nouns
from worldtale.words import is_name, words_of

MOST_ANSWER_WORDS = 4


class Talk:
    """What it and them mean, the clauses that wait, and the question that stands."""

    def __init__(self, world):
        self._world = world
        self._it = None
        self._them = []
        self._bad_word = None
        # Each clause that waits stands beside the readings that an answer left it, or None.
        self._waiting = []
        self._asked = None

    def begin(self, line):
        """Begins a line: the answer of the question that stands, or new clauses."""
        asked = self._asked
        self.let_go()
        if asked is not None:
            clause, readings = asked
            left = readings_left(self._world, readings, answer_words(line))
            if len(left) > 0:
                self._waiting = [(clause, left)]
                return
        try:
            self._waiting = [(clause, None) for clause in clauses_of(line)]
        except BadCommand as refusal:
            self._bad_word = refusal.word

    def mean(self, state):
        """What is meant of the next clause, or None where none waits."""
        if self._bad_word is not None:
            meant = ("words", self._bad_word)
            self._bad_word = None
            return meant
        if len(self._waiting) == 0:
            return None
        clause, left = self._waiting[0]
        self._waiting = self._waiting[1:]
        meant = self._mean_clause(state, clause, left)
        if meant[0] != "do":
            self._waiting = []
        return meant

    def told(self):
        """What it means, what them means, and the things asked about."""
        things = [] if self._asked is None else things_asked(self._asked[1])
        return (self._it, list(self._them), things)

    def put_back(self, it, them):
        """Lets it and them mean these, and a question go."""
        self._it = it
        self._them = [] if them is None else list(them)
        self._asked = None

    def let_go(self):
        """Lets the clauses, a line that was none and a question go."""
        self._bad_word = None
        self._waiting = []
        self._asked = None

    def copied(self):
        """Another talk that answers alike, and goes its own way."""
        other = Talk(self._world)
        other._it = self._it
        other._them = list(self._them)
        other._bad_word = self._bad_word
        other._waiting = list(self._waiting)
        other._asked = self._asked
        return other

    def _mean_clause(self, state, clause, left):
        if left is None:
            unmeant = self._unmeant(state, clause)
            if unmeant is not None:
                return unmeant
            left = best_readings(state, clause, self._it)
        if len(left) > 1:
            self._asked = (clause, left)
            return ("which", things_asked(left))
        return self._mean_reading(state, clause, left[0])

    def _unmeant(self, state, clause):
        """What lacks to mean a clause, or None where it may be meant."""
        word = unknown_word(self._world, clause)
        if word != "":
            return ("unknown", word)
        pronoun = idle_pronoun(clause, self._it, self._them)
        if pronoun != "":
            return ("what", pronoun)
        noun = absent_noun(state, clause, self._it)
        return None if noun is None else ("absent", noun)

    def _mean_reading(self, state, clause, reading):
        """Nothing, or the deeds that a clause of this reading means."""
        if clause.what == "" or clause.verb == "go":
            return ("do", [(clause.verb, clause.what, "", "")])
        holder = "" if clause.holder is None else reading[-1]
        things = self._things_meant(state, clause, reading, holder)
        if len(things) == 0 and clause.what[0] == "all":
            return ("nothing",)
        if len(things) == 1:
            self._it = things[0]
        if len(things) > 1:
            self._them = things
        return ("do", [(clause.verb, thing, clause.link, holder) for thing in things])

    def _things_meant(self, state, clause, reading, holder):
        if clause.what == ("it",):
            return [] if self._it is None else [self._it]
        if clause.what == ("them",):
            return list(self._them)
        if clause.what[0] == "all":
            return all_meant(state, clause, holder)
        return reading[:len(phrase_nouns(clause))]


def answer_words(line):
    """The words of what may be an answer, without "the"; none of anything else."""
    words = words_of(line)
    if words is None:
        return ()
    if words[0] == "the":
        words = words[1:]
    if len(words) > MOST_ANSWER_WORDS or not all([is_name(word) for word in words]):
        return ()
    return tuple(words)


def readings_left(world, readings, words):
    """The readings that an answer fits at the place asked about."""
    if len(words) == 0:
        return []
    at = place_asked(readings)
    return [reading for reading in readings if fits_answer(world, reading[at], words)]


def place_asked(readings):
    """The first place at which readings differ."""
    at = 0
    while all([reading[at] == readings[0][at] for reading in readings]):
        at += 1
    return at


def things_asked(readings):
    """The things at the first place at which readings differ, each once."""
    at = place_asked(readings)
    # Readings differ by the world's order from there on, so that these keep to it.
    return list({reading[at]: True for reading in readings})


def unknown_word(world, clause):
    """The first word of a clause's NOUNS that no thing is called by, or the empty text."""
    known = known_words(world)
    for noun in (*phrase_nouns(clause), *but_nouns(clause), *holder_nouns(clause)):
        for word in noun:
            if word not in known:
                return word
    return ""


def idle_pronoun(clause, it, them):
    """The first of it and them in a clause that means nothing yet, or the empty text."""
    for part in (clause.what, clause.holder):
        if part == ("it",) and it is None:
            return "it"
        if part == ("them",) and len(them) == 0:
            return "them"
    return ""


def absent_noun(state, clause, it):
    """The first NOUN that nothing seen fits, or the last one where there is no reading; else None."""
    nouns = [*phrase_nouns(clause), *holder_nouns(clause)]
    for noun in nouns:
        if len(seen_fits(state, noun)) == 0:
            return noun
    return None if len(all_readings(state, clause, it)) > 0 else nouns[-1]
