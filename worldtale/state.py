"""The state of a world: where you and its things are, and how they stand."""

from worldtale.errors import BadState
from worldtale.words import is_among
from worldtale.world import HOLDER_TRAITS, need_name

WITH_YOU = ("with",)
NOWHERE = ("nowhere",)
MOST_NUMBER = 9


class State:
    """What is so in a world at a moment, and the deeds that change it."""

    def __init__(self, world):
        things, _, states = world.told()[1:4]
        lids = [thing for thing in world.thing_names() if world.has_lid(thing)]
        self._world = world
        self._here = world.place_names()[0]
        self._turns = 0
        self._wheres = {row[0]: row[3] for row in things}
        self._opens = {thing: not world.has_trait(thing, "shut") for thing in lids}
        self._worns = {row[0]: False for row in things}
        self._numbers = {name: number for name, number in states}

    def here(self):
        """The place where you are."""
        return self._here

    def turn(self):
        """How many turns were."""
        return self._turns

    def where(self, thing):
        """Where a thing is, as a world has it."""
        need_name(thing, self._wheres)
        return self._wheres[thing]

    def is_open(self, thing):
        """Whether a box or a door is open; nothing else is."""
        need_name(thing, self._wheres)
        return self._opens.get(thing, False)

    def is_worn(self, thing):
        need_name(thing, self._wheres)
        return self._worns[thing]

    def number_of(self, name):
        """The number of a state."""
        need_name(name, self._numbers)
        return self._numbers[name]

    def move_thing(self, thing, where):
        """Puts a thing there; moved anywhere but with you it is worn no more."""
        need_name(thing, self._wheres)
        if self._world.has_trait(thing, "door"):
            raise BadState("a door stays where it is")
        if not self._is_where(where) or self._would_ring(thing, where):
            raise BadState("the thing can't be there")
        self._wheres[thing] = where
        if where != WITH_YOU:
            self._worns[thing] = False

    def set_open(self, thing, truth):
        need_name(thing, self._wheres)
        if thing not in self._opens or not isinstance(truth, bool):
            raise BadState("this can't be open or shut")
        self._opens[thing] = truth

    def set_worn(self, thing, truth):
        need_name(thing, self._wheres)
        can_be_worn = self._world.has_trait(thing, "wear") and self._wheres[thing] == WITH_YOU
        if not can_be_worn or not isinstance(truth, bool):
            raise BadState("this can't be worn or not")
        self._worns[thing] = truth

    def set_number(self, name, number):
        need_name(name, self._numbers)
        if not is_among(number, 0, MOST_NUMBER):
            raise BadState("a state's number is a whole one from 0 to 9")
        self._numbers[name] = number

    def go_to(self, place):
        """Puts you at a place."""
        need_name(place, self._world.place_names())
        self._here = place

    def next_turn(self):
        self._turns += 1

    def told(self):
        """The state as a tuple, alike for states that are alike."""
        opens = tuple([thing for thing in self._opens if self._opens[thing]])
        worns = tuple([thing for thing in self._worns if self._worns[thing]])
        wheres = tuple(self._wheres.values())
        return (self._here, self._turns, wheres, opens, worns, tuple(self._numbers.values()))

    def copied(self):
        """Another state alike, which goes its own way."""
        other = State(self._world)
        other._here = self._here
        other._turns = self._turns
        other._wheres = dict(self._wheres)
        other._opens = dict(self._opens)
        other._worns = dict(self._worns)
        other._numbers = dict(self._numbers)
        return other

    def set_as_told(self, told):
        """Stands as another state of this world told; whether this can be isn't looked at."""
        self._here, self._turns, wheres, opens, worns, numbers = told
        self._wheres = dict(zip(self._wheres, wheres))
        self._opens = {thing: thing in opens for thing in self._opens}
        self._worns = {thing: thing in worns for thing in self._worns}
        self._numbers = dict(zip(self._numbers, numbers))

    def told_world(self):
        """The World that this is a state of."""
        return self._world

    def _is_where(self, where):
        """Whether a thing may be there at all: at a place, or held by what can hold."""
        if not isinstance(where, tuple) or not all([isinstance(word, str) for word in where]):
            return False
        if where == WITH_YOU or where == NOWHERE:
            return True
        if len(where) != 2:
            return False
        link, name = where
        if link == "at":
            return name in self._world.place_names()
        if link not in HOLDER_TRAITS or name not in self._wheres:
            return False
        return self._world.has_trait(name, HOLDER_TRAITS[link])

    def _would_ring(self, thing, where):
        """Whether a thing that is put there, where it may be, would hold itself."""
        while where[0] in HOLDER_TRAITS and where[1] != thing:
            where = self._wheres[where[1]]
        return where[0] in HOLDER_TRAITS
