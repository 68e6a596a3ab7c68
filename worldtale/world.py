"""A told world: its rows as tuples, sort by sort."""

from worldtale.errors import OutOfPlace

SORTS = ("place", "thing", "way", "state", "rule", "every", "scene", "end")
HOLDER_TRAITS = {"in": "box", "on": "stand"}


class World:
    """The rows of a world. It never changes, so that others may keep it."""

    def __init__(self, places, things, ways, states, rules, everies, scenes, ends):
        given = (places, things, ways, states, rules, everies, scenes, ends)
        self._lists = tuple([tuple(rows) for rows in given])
        self._things = {row[0]: row for row in self._lists[1]}

    def told(self):
        """The eight lists of rows, as the asker's own."""
        return tuple([list(rows) for rows in self._lists])

    def rows_of(self, sort):
        """The rows of one sort, as a tuple."""
        return self._lists[SORTS.index(sort)]

    def ways_out(self, place):
        """The ways that lead out of a place."""
        return [way for way in self.rows_of("way") if way[0] == place]

    def place_names(self):
        return [row[0] for row in self._lists[0]]

    def thing_names(self):
        return list(self._things)

    def noun_of(self, thing):
        need_name(thing, self._things)
        return self._things[thing][1]

    def adjectives_of(self, thing):
        need_name(thing, self._things)
        return self._things[thing][2]

    def has_trait(self, thing, trait):
        need_name(thing, self._things)
        return trait in self._things[thing][4]

    def has_lid(self, thing):
        """Whether a thing can be open or shut."""
        return self.has_trait(thing, "box") or self.has_trait(thing, "door")


def need_name(name, names):
    """OutOfPlace of anything that is none of these names."""
    # What is no text may not even be looked up in a dict.
    if not isinstance(name, str) or name not in names:
        raise OutOfPlace("no such name")
