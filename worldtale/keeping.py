"""Keeps a play as text, and takes it up again."""

from worldtale.cursor import Cursor
from worldtale.errors import BadRow
from worldtale.play import Moment, Play
from worldtale.state import NOWHERE, WITH_YOU, State
from worldtale.words import digit_of, words_of
from worldtale.world import HOLDER_TRAITS
from worldtale.worldtext import where_words

MOST_TURN_FIGURES = 6
# The first word of a WHERE is the third one of its row.
WHERE_WORD = 3
LEAST_THEM = 2


def kept_text(play):
    """The text of a play; a question that stands in it is let go."""
    moments = play.moments_kept()
    rows = moment_rows(moments[0])
    for moment in moments[1:]:
        rows.extend(["back", *moment_rows(moment)])
    return "\n".join(rows)


def moment_rows(moment):
    state = moment.state
    world = state.told_world()
    rows = [f"turn {state.turn()}", f"you {state.here()}"]
    rows.extend([thing_row(state, thing) for thing in world.thing_names()])
    rows.extend([f"state {name} {state.number_of(name)}" for name, _ in world.rows_of("state")])
    rows.extend([f"runs {name}" for name in moment.running])
    if moment.end != "":
        rows.append(f"over {moment.end}")
    if moment.it is not None:
        rows.append(f"it {moment.it}")
    if len(moment.them) > 0:
        rows.append(" ".join(["them", *moment.them]))
    return rows


def thing_row(state, thing):
    words = ["thing", thing, where_words(state.where(thing))]
    if state.is_open(thing):
        words.append("open")
    if state.is_worn(thing):
        words.append("worn")
    return " ".join(words)


def taken_up(world, text):
    """The play that a text keeps; BadRow of anything that keeps none."""
    if not isinstance(text, str):
        raise BadRow(1, 0)
    rows = KeptRows(text)
    moments = [read_moment(rows, world, None)]
    # Each turn can be taken back, so that the last moment is the one of turn 0.
    while moments[-1].state.turn() > 0:
        read_back(rows)
        moments.append(read_moment(rows, world, moments[-1].state.turn() - 1))
    rows.finish()
    play = Play(world)
    play.stand_at(moments)
    return play


class KeptRows:
    """The rows of a text, and how far they are read."""

    def __init__(self, text):
        self._rows = text.split("\n")
        self._at = 0

    def take_next(self):
        """The words of the next row; a row that lacks, or has no words, is refused."""
        words = words_of(self._rows[self._at]) if self._at < len(self._rows) else None
        self._at += 1
        if words is None:
            raise BadRow(self._at, 0)
        return Cursor(self._at, words)

    def take_if(self, sort):
        """The words of the next row if it is of this sort, its first word read; else None."""
        if self._at == len(self._rows) or self._rows[self._at].split(" ")[0] != sort:
            return None
        cursor = self.take_next()
        cursor.take_word(sort)
        return cursor

    def finish(self):
        """Nothing stands behind what was read."""
        if self._at < len(self._rows):
            cursor = self.take_next()
            cursor.refuse()


def read_back(rows):
    cursor = rows.take_next()
    cursor.take_word("back")
    cursor.finish()


def read_moment(rows, world, turn):
    """Reads a moment, of this turn where it is an earlier one, else of any."""
    found_turn = read_turn(rows.take_next(), turn)
    here = read_you(rows.take_next(), world)
    wheres = {}
    opens = []
    worns = []
    for thing in world.thing_names():
        cursor = rows.take_next()
        wheres[thing] = read_where(cursor, world, wheres, thing)
        if world.has_lid(thing) and cursor.skip("open"):
            opens.append(thing)
        if world.has_trait(thing, "wear") and wheres[thing] == WITH_YOU and cursor.skip("worn"):
            worns.append(thing)
        cursor.finish()
    numbers = [read_number(rows.take_next(), name) for name, _ in world.rows_of("state")]
    state = State(world)
    state.set_as_told((here, found_turn, list(wheres.values()), opens, worns, numbers))
    running = read_running(rows, world)
    end = read_end(rows, world) if turn is None else ""
    it = read_it(rows, world)
    return Moment(state, running, end, it, read_them(rows, world))


def read_turn(cursor, turn):
    cursor.take_word("turn")
    word = cursor.peek()
    if not is_turn(word) or (turn is not None and int(word) != turn):
        cursor.refuse()
    cursor.take_next()
    cursor.finish()
    return int(word)


def is_turn(word):
    """Whether a word is one to six figures, without a 0 ahead."""
    if not 1 <= len(word) <= MOST_TURN_FIGURES or (word[0] == "0" and word != "0"):
        return False
    return all([digit_of(sign) is not None for sign in word])


def read_you(cursor, world):
    cursor.take_word("you")
    place = cursor.take_one_of(world.place_names())
    cursor.finish()
    return place


def read_where(cursor, world, wheres, thing):
    """Reads a thing's row as far as where it is; the wheres are those of the rows ahead."""
    cursor.take_word("thing")
    cursor.take_word(thing)
    if world.has_trait(thing, "door"):
        cursor.take_word("nowhere")
        return NOWHERE
    link = cursor.take_one_of(("at", *HOLDER_TRAITS, "with", "nowhere"))
    if link == "nowhere":
        return NOWHERE
    if link == "with":
        cursor.take_word("you")
        return WITH_YOU
    if link == "at":
        return (link, cursor.take_one_of(world.place_names()))
    where = (link, cursor.take_one_of(holders_of(world, link)))
    if closes_ring(wheres, thing, where):
        cursor.refuse_at(WHERE_WORD)
    return where


def holders_of(world, link):
    return [thing for thing in world.thing_names() if world.has_trait(thing, HOLDER_TRAITS[link])]


def closes_ring(wheres, thing, where):
    """Whether a thing that is there would hold itself, by what the rows ahead of its own tell."""
    while where[0] in HOLDER_TRAITS and where[1] in wheres:
        where = wheres[where[1]]
    return where[0] in HOLDER_TRAITS and where[1] == thing


def read_number(cursor, name):
    cursor.take_word("state")
    cursor.take_word(name)
    number = cursor.take_figure(0, 9)
    cursor.finish()
    return number


def read_running(rows, world):
    """Reads the scenes that run, each one further on in the world than the one ahead."""
    scenes = [name for name, _, _ in world.rows_of("scene")]
    found = []
    cursor = rows.take_if("runs")
    while cursor is not None:
        name = cursor.take_one_of(scenes)
        cursor.finish()
        found.append(name)
        scenes = scenes[scenes.index(name) + 1:]
        cursor = rows.take_if("runs")
    return found


def read_end(rows, world):
    cursor = rows.take_if("over")
    if cursor is None:
        return ""
    name = cursor.take_one_of([name for name, _ in world.rows_of("end")])
    cursor.finish()
    return name


def read_it(rows, world):
    cursor = rows.take_if("it")
    if cursor is None:
        return None
    thing = cursor.take_one_of(world.thing_names())
    cursor.finish()
    return thing


def read_them(rows, world):
    """Reads what them means: two things or more, each once."""
    cursor = rows.take_if("them")
    if cursor is None:
        return []
    found = []
    while len(found) < LEAST_THEM or cursor.peek() != "":
        found.append(cursor.take_one_of([thing for thing in world.thing_names() if thing not in found]))
    return found
