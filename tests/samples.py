"""Worlds that several tests use, as texts and as tuples."""

from worldtale.looking import look_through
from worldtale.world import World
from worldtale.worldread import read_world

NAMES = ("places", "things", "ways", "states", "rules", "everies", "scenes", "ends")

HOUSE_ROWS = (
    "place hall",
    "place cellar dark",
    "thing lamp lamp red : at hall lit",
    "thing chest box big old : at hall box clear shut",
    "thing table table : at cellar fixed stand",
    "thing cap cap : with you wear",
    "thing coin coin small : in chest",
    "thing cup cup : on table",
    "thing ghost ghost : nowhere",
    "thing gate door iron : nowhere door shut",
    "way hall down cellar by gate",
    "way cellar up hall by gate",
    "way hall east hut",
    "state mood 3",
    "state luck 0",
    "rule before take lamp : not mood is 3 : say it is hot and stop",
    "rule instead wait any : always : say you wait",
    "rule after go cellar : lamp with you and not you at hall : set mood 4 and move ghost at cellar",
    "every 4 : gate open and cap worn : move coin with you and move coin nowhere",
    "scene fog : always : lamp nowhere",
    "end rich : coin on table and coin in chest and coin at hall",
)

HOUSE_LISTS = (
    [("hall", False), ("hut", False), ("cellar", True)],
    [
        ("lamp", "lamp", ("red",), ("at", "hall"), ("lit",)),
        ("chest", "box", ("big", "old"), ("at", "hall"), ("box", "clear", "shut")),
        ("table", "table", (), ("at", "cellar"), ("fixed", "stand")),
        ("cap", "cap", (), ("with",), ("wear",)),
        ("coin", "coin", ("small",), ("in", "chest"), ()),
        ("cup", "cup", (), ("on", "table"), ()),
        ("ghost", "ghost", (), ("nowhere",), ()),
        ("gate", "door", ("iron",), ("nowhere",), ("door", "shut")),
    ],
    [("hall", "down", "cellar", "gate"), ("cellar", "up", "hall", "gate"), ("hall", "east", "hut", "")],
    [("mood", 3), ("luck", 0)],
    [
        ("before", "take", "lamp", ((True, "is", "mood", 3),), (("say", "it is hot"), ("stop",))),
        ("instead", "wait", "", (), (("say", "you wait"),)),
        (
            "after", "go", "cellar",
            ((False, "with", "lamp", ""), (True, "you", "hall", "")),
            (("set", "mood", 4), ("move", "ghost", ("at", "cellar"))),
        ),
    ],
    [
        (
            4,
            ((False, "open", "gate", ""), (False, "worn", "cap", "")),
            (("move", "coin", ("with",)), ("move", "coin", ("nowhere",))),
        ),
    ],
    [("fog", (), ((False, "nowhere", "lamp", ""),))],
    [("rich", ((False, "on", "coin", "table"), (False, "in", "coin", "chest"), (False, "at", "coin", "hall")))],
)

HOUSE_TEXT = "\n".join([HOUSE_ROWS[0], "place hut", *HOUSE_ROWS[1:]])

# Things that share nouns and adjectives; "red" is a noun, too.
SHOP_TEXT = "\n".join((
    "place hall",
    "place hut dark",
    "thing one lamp old red : at hall",
    "thing two lamp green old : with you",
    "thing three lamp red small : at hall",
    "thing chest box old : at hall box",
    "thing bag box red : with you box shut",
    "thing tray tray red : at hall stand",
    "thing shelf tray : at hall fixed stand",
    "thing cap cap red : with you wear",
    "thing hat cap : with you wear",
    "thing rose red : in chest",
    "thing pin pin : nowhere",
    "thing gate door red : nowhere door shut",
    "way hall up hut by gate",
    "way hut down hall by gate",
))


class Alike:
    """What says of itself that it is alike to anything."""

    def __eq__(self, other):
        return True

    def __hash__(self):
        return hash("lamp")


# What is none of the names in any world of the tests.
NOTHING_THERE = ("loft", "", "Lamp", "lamp ", None, True, False, 0, 1, [], ["lamp"], (), ("lamp",), {}, set(), b"lamp",
                 object(), Alike())


def house():
    """A new World of the house."""
    return World(*[list(rows) for rows in HOUSE_LISTS])


def shop():
    """A new World of the shop."""
    return read_world(SHOP_TEXT)


def world_of(**lists):
    """A World of the lists told by name, the others empty, but for one place."""
    told = {name: [] for name in NAMES}
    told["places"] = [("hall", False)]
    told.update(lists)
    return World(*[told[name] for name in NAMES])


# A world with something of each sort, to be played.
MANOR_TEXT = "\n".join((
    "place hall",
    "place cellar dark",
    "place garden",
    "thing lamp lamp red : at hall lit",
    "thing torch lamp green : in chest lit",
    "thing chest box old : at hall box shut",
    "thing case box glass : at hall box clear shut",
    "thing coin coin small : in case",
    "thing table table oak : at garden fixed stand",
    "thing cup cup : on table",
    "thing cap cap : with you wear",
    "thing bag bag : with you box wear",
    "thing statue statue old iron : at garden fixed",
    "thing gate gate iron : nowhere door shut",
    "thing ghost ghost : nowhere",
    "way hall down cellar",
    "way cellar up hall",
    "way hall east garden by gate",
    "way garden west hall by gate",
    "state luck 0",
    "state mood 5",
    "rule before take coin : luck is 0 : say the coin glitters and set luck 1",
    "rule before drop cup : always : say better not and stop",
    "rule instead wait any : you at garden and not ghost nowhere : say the ghost sighs and move ghost nowhere",
    "rule after take cup : always : say how cold and set mood 4",
    "rule after go cellar : not lamp with you : say brr",
    "every 3 : you at garden : move ghost at garden and say a cold wind",
    "every 2 : luck is 1 : set luck 2",
    "scene dusk : you at garden : you at cellar",
    "scene haunted : ghost at garden : ghost nowhere",
    "end rich : coin with you and luck is 2",
    "end lost : lamp in bag and bag at cellar",
))


def manor():
    """A new World of the manor."""
    return read_world(MANOR_TEXT)


def looked(*rows):
    """A World of rows that the looker lets by."""
    made = read_world("\n".join(rows))
    look_through(made)
    return made
