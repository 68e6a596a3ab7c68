"""The state of a world: where you and its things are, and how they stand."""

from worldtale.errors import BadState, OutOfPlace
from worldtale.words import is_among
from worldtale.world import HOLDER_TRAITS

WITH_YOU = ("with",)
NOWHERE = ("nowhere",)
MOST_NUMBER = 9


class State:
    """What is so in a world at a moment, and the deeds that change it."""

    def __init__(self, world):
        places, things, _, states = world.told()[:4]
        self._world = world
        self._places = [row[0] for row in places]
        self._traits = {row[0]: row[4] for row in things}
        self._here = places[0][0]
        self._turns = 0
        self._wheres = {row[0]: row[3] for row in things}
        self._opens = {row[0]: "shut" not in row[4] for row in things if "box" in row[4] or "door" in row[4]}
        self._worns = {row[0]: False for row in things}
        self._numbers = {name: number for name, number in states}

    def here(self):
        """The place where you are."""
        return self._here

    def turn(self):
        """How many turns were."""
        return self._turns

    def where(self, thing):
        """Where a thing is, as a world has it."""
        self._need(thing, self._wheres)
        return self._wheres[thing]

    def is_open(self, thing):
        """Whether a box or a door is open; nothing else is."""
        self._need(thing, self._wheres)
        return self._opens.get(thing, False)

    def is_worn(self, thing):
        self._need(thing, self._wheres)
        return self._worns[thing]

    def number_of(self, name):
        """The number of a state."""
        self._need(name, self._numbers)
        return self._numbers[name]

    def move_thing(self, thing, where):
        """Puts a thing there; moved anywhere but with you it is worn no more."""
        self._need(thing, self._wheres)
        if "door" in self._traits[thing]:
            raise BadState("a door stays where it is")
        if not self._is_where(where) or self._would_ring(thing, where):
            raise BadState("the thing can't be there")
        self._wheres[thing] = where
        if where != WITH_YOU:
            self._worns[thing] = False

    def set_open(self, thing, truth):
        self._need(thing, self._wheres)
        if thing not in self._opens or not isinstance(truth, bool):
            raise BadState("this can't be open or shut")
        self._opens[thing] = truth

    def set_worn(self, thing, truth):
        self._need(thing, self._wheres)
        if "wear" not in self._traits[thing] or self._wheres[thing] != WITH_YOU or not isinstance(truth, bool):
            raise BadState("this can't be worn or not")
        self._worns[thing] = truth

    def set_number(self, name, number):
        self._need(name, self._numbers)
        if not is_among(number, 0, MOST_NUMBER):
            raise BadState("a state's number is a whole one from 0 to 9")
        self._numbers[name] = number

    def go_to(self, place):
        """Puts you at a place."""
        self._need(place, self._places)
        self._here = place

    def next_turn(self):
        self._turns += 1

    def told(self):
        """The state as a tuple, alike for states that are alike."""
        opens = tuple([thing for thing in self._opens if self._opens[thing]])
        worns = tuple([thing for thing in self._worns if self._worns[thing]])
        wheres = tuple(self._wheres.values())
        return (self._here, self._turns, wheres, opens, worns, tuple(self._numbers.values()))

    def copied(self):
        """Another state alike, which goes its own way."""
        other = State(self._world)
        other._here = self._here
        other._turns = self._turns
        other._wheres = dict(self._wheres)
        other._opens = dict(self._opens)
        other._worns = dict(self._worns)
        other._numbers = dict(self._numbers)
        return other

    def told_world(self):
        """The World that this is a state of."""
        return self._world

    def _need(self, name, names):
        # Anything may be asked for: what is no text may not even be looked up in a dict.
        if not isinstance(name, str) or name not in names:
            raise OutOfPlace("no such name")

    def _is_where(self, where):
        """Whether a thing may be there at all: at a place, or held by what can hold."""
        if not isinstance(where, tuple) or not all([isinstance(word, str) for word in where]):
            return False
        if where == WITH_YOU or where == NOWHERE:
            return True
        if len(where) != 2:
            return False
        link, name = where
        if link == "at":
            return name in self._places
        if link not in HOLDER_TRAITS or name not in self._traits:
            return False
        return HOLDER_TRAITS[link] in self._traits[name]

    def _would_ring(self, thing, where):
        """Whether a thing that is put there, where it may be, would hold itself."""
        while where[0] in HOLDER_TRAITS and where[1] != thing:
            where = self._wheres[where[1]]
        return where[0] in HOLDER_TRAITS
