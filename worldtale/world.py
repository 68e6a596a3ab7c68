"""A told world: its rows as tuples, sort by sort."""

SORTS = ("place", "thing", "way", "state", "rule", "every", "scene", "end")
HOLDER_TRAITS = {"in": "box", "on": "stand"}


class World:
    """The rows of a world. It never changes, so that others may keep it."""

    def __init__(self, places, things, ways, states, rules, everies, scenes, ends):
        given = (places, things, ways, states, rules, everies, scenes, ends)
        self._lists = tuple([tuple(rows) for rows in given])

    def told(self):
        """The eight lists of rows, as the asker's own."""
        return tuple([list(rows) for rows in self._lists])
