"""Worlds and lines made up by dice, for what must hold of all of them."""

from worldtale.errors import BadWorld
from worldtale.looking import look_through
from worldtale.worldread import read_world

PLACES = ("hall", "hut", "den")
NOUNS = ("lamp", "box", "cap", "tray", "pin")
ADJECTIVES = ("red", "old", "small")
STATES = ("mood", "luck")
BACKS = {"up": "down", "east": "west", "north": "south", "down": "up", "west": "east", "south": "north"}
VERBS = ("take", "drop", "put", "open", "shut", "wear", "doff", "go", "wait")
TRAITS = ("", "", "", "box", "box", "box clear", "box clear shut", "box shut", "box wear", "fixed stand", "lit", "lit", "stand",
          "stand wear", "wear", "wear", "fixed")


def wild_text(dice):
    """The text of a world that the looker lets by."""
    while True:
        text = "\n".join(Wild(dice).rows())
        try:
            look_through(read_world(text))
            return text
        except BadWorld:
            # What no dice can well know beforehand (twins, rings, a not beside its own) is thrown again.
            continue


class Wild:
    def __init__(self, dice):
        self.dice = dice
        self.places = PLACES[:dice.randint(1, 3)]
        self.traits = {f"t{letter}": dice.choice(TRAITS) for letter in "abcdefgh"[:dice.randint(1, 8)]}
        self.doors = [f"d{letter}" for letter in "ab"[:dice.randint(0, 2)]]
        self.boxes = [name for name, traits in self.traits.items() if "box" in traits]
        self.stands = [name for name, traits in self.traits.items() if "stand" in traits]

    def where(self):
        kind = self.dice.choice(("at", "at", "in", "in", "on", "with", "nowhere"))
        if kind == "with":
            return "with you"
        if kind == "in" and self.boxes:
            return f"in {self.dice.choice(self.boxes)}"
        if kind == "on" and self.stands:
            return f"on {self.dice.choice(self.stands)}"
        return "nowhere" if kind == "nowhere" else f"at {self.dice.choice(self.places)}"

    def condition(self):
        thing = self.dice.choice(list(self.traits))
        told = self.dice.choice((
            f"{self.dice.choice(STATES)} is {self.dice.randint(0, 2)}", f"{thing} {self.where()}", f"{thing} open",
            f"{thing} worn", f"you at {self.dice.choice(self.places)}",
        ))
        return f"not {told}" if self.dice.random() < 0.3 else told

    def conditions(self):
        many = self.dice.choice((0, 1, 1, 2, 2, 3))
        return " and ".join([self.condition() for _ in range(many)]) or "always"

    def effect(self):
        return self.dice.choice((
            f"say {self.dice.choice(('hm', 'it is so', 'the old lamp then'))}",
            f"set {self.dice.choice(STATES)} {self.dice.randint(0, 2)}",
            f"move {self.dice.choice(list(self.traits))} {self.where()}",
        ))

    def effects(self, may_stop=False):
        found = [self.effect() for _ in range(self.dice.randint(1, 3))]
        if may_stop and self.dice.random() < 0.3:
            found.append("stop")
        return " and ".join(found)

    def ways(self):
        found, used = [], set()
        for at, place in enumerate(self.places[1:]):
            direction = self.dice.choice(list(BACKS))
            other = self.places[at]
            if (other, direction) in used or (place, BACKS[direction]) in used:
                continue
            used.update([(other, direction), (place, BACKS[direction])])
            by = f" by {self.doors[at]}" if at < len(self.doors) else ""
            found.append(f"way {other} {direction} {place}{by}")
            if self.dice.random() < 0.8:
                found.append(f"way {place} {BACKS[direction]} {other}{by}")
        return found

    def rule(self):
        book, verb = self.dice.choice(("before", "instead", "after")), self.dice.choice(VERBS)
        about = "any"
        if verb != "wait" and self.dice.random() < 0.5:
            about = self.dice.choice(self.places if verb == "go" else list(self.traits))
        return f"rule {book} {verb} {about} : {self.conditions()} : {self.effects(book == 'before')}"

    def rows(self):
        dice = self.dice
        ways = self.ways()
        rows = [f"place {name}{' dark' if dice.random() < 0.3 else ''}" for name in self.places]
        for name, traits in self.traits.items():
            adjectives = " ".join(dice.sample(ADJECTIVES, dice.randint(0, 2)))
            words = f"thing {name} {dice.choice(NOUNS)} {adjectives} : {self.where()} {traits}"
            rows.append(" ".join(words.split()))
        for door in self.doors:
            if any([way.endswith(f" by {door}") for way in ways]):
                rows.append(f"thing {door} door {door}x : nowhere door{dice.choice(('', ' shut'))}")
        rows.extend(ways)
        rows.extend([f"state {name} {dice.randint(0, 2)}" for name in STATES])
        rows.extend([self.rule() for _ in range(dice.randint(0, 8))])
        rows.extend([f"every {dice.randint(1, 4)} : {self.conditions()} : {self.effects()}" for _ in range(dice.randint(0, 2))])
        rows.extend([f"scene {name} : {self.conditions()} : {self.conditions()}" for name in ("fog", "gale")])
        rows.extend([f"end {name} : {self.condition()} and {self.condition()} and {self.condition()} and {self.condition()}"
                     for name in ("rich", "lost")])
        return rows


def wild_noun(dice):
    words = [*dice.sample(ADJECTIVES, dice.choice((0, 0, 0, 1, 1, 2))), dice.choice((*NOUNS, "door"))]
    return " ".join([*dice.choice(([], ["the"])), *words])


def wild_phrase(dice):
    return dice.choice((
        "it", "them", "all", f"all but {wild_noun(dice)}", wild_noun(dice), wild_noun(dice), wild_noun(dice),
        f"{wild_noun(dice)} and {wild_noun(dice)}",
    ))


def wild_clause(dice):
    verb = dice.choice(("take", "take", "drop", "put", "put", "open", "open", "shut", "wear", "doff", "go", "go", "go", "wait",
                        "look", "list", "undo"))
    if verb == "go":
        return dice.choice(list(BACKS))
    if verb in ("wait", "look", "list", "undo"):
        return verb
    if verb == "put":
        return f"put {wild_phrase(dice)} {dice.choice(('in', 'on'))} {dice.choice(('it', wild_noun(dice), wild_noun(dice)))}"
    return f"{verb} {wild_phrase(dice)}"


def wild_line(dice):
    """A line, an answer, or now and then what is neither."""
    chance = dice.random()
    if chance < 0.12:
        return dice.choice((*ADJECTIVES, "the red lamp", "the small", "dax"))
    if chance < 0.17:
        return dice.choice((None, 7, "", "Look", "take", "take foo", "up up", "look ", "then look"))
    return " then ".join([wild_clause(dice) for _ in range(dice.choice((1, 1, 1, 2, 3)))])
