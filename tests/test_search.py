"""Point 92: deeds in their order, moments, and shortest ways."""

import unittest

from tests.samples import NOTHING_THERE, looked, manor
from worldtale import search
from worldtale.clock import begin_step, clock_step
from worldtale.deeds import do_deed
from worldtale.errors import OutOfPlace, TooGreat
from worldtale.play import Play
from worldtale.search import all_deeds, closed_moments, way_to
from worldtale.state import State

DIRECTIONS = ("down", "east", "north", "south", "up", "west")
WAIT = ("wait", "", "", "")


def waits(*rows):
    """A world in which nothing can be done but waiting, by these rules."""
    return looked("place hall", "state a 0", "state b 0", *rows)


def counter(many):
    """A world that waits lead through so many moments, one after another, up to 125 of them."""
    rules = [f"rule instead wait any : a is {at} : set a {at + 1}" for at in range(4)]
    rules.extend([f"rule instead wait any : a is 4 and b is {at} : set b {at + 1} and set a 0" for at in range(4)])
    rules.extend([f"rule instead wait any : a is 4 and b is 4 and c is {at} : set c {at + 1} and set b 0 and set a 0"
                  for at in range(4)])
    last = many - 1
    return looked("place hall", "state a 0", "state b 0", "state c 0", *rules,
                  f"end last : a is {last % 5} and b is {last // 5 % 5} and c is {last // 25}")


def cupboard(*lofts):
    """Seven boxes to be opened: by four steps 99 moments are come to, and one more for each loft, by one step."""
    boxes = "abcdefg"
    ways = [f"way hall {direction} {loft}" for direction, loft in zip(DIRECTIONS, lofts)]
    # Off one goes only while all are shut, and nowhere else from there.
    stops = [f"rule before go any : {box} open : stop" for box in boxes]
    things = [f"thing {box} {box} : at hall box fixed shut" for box in boxes]
    return looked("place hall", *[f"place {loft}" for loft in lofts], *things, *ways, *stops,
                  "end four : a open and b open and c open and d open",
                  "end five : a open and b open and c open and e open", "end three : g open and f open and e open",
                  "end never : a at hall and a nowhere")


# Moments by plain trying out: all rows of deeds, one after another.


def begun(world):
    state = State(world)
    _, running, end = begin_step(world, state)
    return (state, running, end)


def stepped(world, stand, deed):
    state, running, end = stand
    state = state.copied()
    if end != "" or not do_deed(world, state, deed)[1]:
        return None
    _, running, end = clock_step(world, state, running)
    return (state, running, end)


def told(stand, span):
    state, running, end = stand
    rows = state.told()
    return ((rows[0], *rows[2:]), tuple(running), rows[1] % span, end)


def by_trying(world, steps, span):
    """Each moment of at most so many steps, with its first shortest way."""
    found = {}
    rows = [([], begun(world))]
    for _ in range(steps + 1):
        for way, stand in rows:
            found.setdefault(told(stand, span), way)
        following = [([*way, deed], stepped(world, stand, deed)) for way, stand in rows for deed in all_deeds(world)]
        rows = [(way, stand) for way, stand in following if stand is not None]
    return found


SMALL_WORLDS = (
    (1, looked("place hall", "place hut dark", "thing cap cap : at hall wear", "way hall east hut", "way hut west hall",
               "scene fog : cap worn : you at hut", "end far : cap at hut", "end worn : cap worn and you at hut")),
    (2, looked("place hall", "thing pin pin : with you", "thing bag bag : with you box",
               "every 2 : pin at hall : move pin with you", "end done : pin in bag and bag at hall", "end floor : pin at hall")),
    (6, looked("place hall", "state luck 0", "every 3 : always : set luck 1", "every 2 : luck is 1 : set luck 2",
               "end done : luck is 2")),
)


class TestAllDeeds(unittest.TestCase):
    def test_in_order(self):
        world = looked("place hall", "thing b pin : at hall", "thing a cup : at hall")
        things = ("b", "a")
        wanted = [(verb, thing, "", "") for verb in ("take", "drop") for thing in things]
        wanted.extend([("put", "b", "in", "b"), ("put", "b", "in", "a"), ("put", "a", "in", "b"), ("put", "a", "in", "a")])
        wanted.extend([("put", "b", "on", "b"), ("put", "b", "on", "a"), ("put", "a", "on", "b"), ("put", "a", "on", "a")])
        wanted.extend([(verb, thing, "", "") for verb in ("open", "shut", "wear", "doff") for thing in things])
        wanted.extend([("go", direction, "", "") for direction in DIRECTIONS])
        self.assertEqual(all_deeds(world), [*wanted, WAIT])

    def test_without_things(self):
        self.assertEqual(all_deeds(looked("place hall")), [*[("go", direction, "", "") for direction in DIRECTIONS], WAIT])

    def test_many(self):
        self.assertEqual(len(all_deeds(manor())), 6 * 12 + 2 * 144 + 7)
        self.assertEqual(len(set(all_deeds(manor()))), 6 * 12 + 2 * 144 + 7)

    def test_the_asker_s_own(self):
        world = manor()
        all_deeds(world).clear()
        self.assertEqual(len(all_deeds(world)), 367)

    def test_each_function_is_in_its_file(self):
        for name in ("all_deeds", "closed_moments", "way_to"):
            self.assertEqual(getattr(search, name).__module__, "worldtale.search")


class TestClosedMoments(unittest.TestCase):
    def test_one_moment(self):
        self.assertEqual(closed_moments(looked("place hall")), [(("hall", (), (), (), ()), (), 0, "")])

    def test_all_parts_of_a_moment(self):
        world = looked("place hall", "place hut", "thing cap cap : at hall wear", "thing gate gate : nowhere door shut",
                       "way hall up hut by gate", "state luck 3", "rule before take any : always : stop",
                       "rule before shut any : always : stop", "scene fog : you at hut : always", "end far : you at hut")
        wheres = (("at", "hall"), ("nowhere",))
        self.assertEqual(closed_moments(world), [
            (("hall", wheres, (), (), (3,)), (), 0, ""),
            (("hall", wheres, ("gate",), (), (3,)), (), 0, ""),
            (("hut", wheres, ("gate",), (), (3,)), ("fog",), 0, "far"),
        ])

    def test_in_the_order_of_their_shortest_ways(self):
        for span, world in SMALL_WORLDS:
            found = closed_moments(world)
            tried = list(by_trying(world, 4, span))
            self.assertEqual(found[:len(tried)], tried)
            self.assertEqual(len(set(found)), len(found))

    def test_all_that_can_be_come_to(self):
        world = SMALL_WORLDS[0][1]
        self.assertEqual(set(closed_moments(world)), set(by_trying(world, 5, 1)))

    def test_the_rest_of_the_turn(self):
        for rows, span in (((), 1), (("every 1 : always : say a",), 1), (("every 2 : always : say a",), 2),
                           (("every 3 : always : say a", "every 2 : always : say a"), 6),
                           (("every 4 : always : say a", "every 2 : always : say a"), 4),
                           (("every 4 : always : say a", "every 3 : always : say a"), 12)):
            self.assertEqual(closed_moments(looked("place hall", *rows)),
                             [(("hall", (), (), (), ()), (), rest, "") for rest in range(span)])

    def test_scenes_tell_moments_apart(self):
        world = waits("rule after wait any : a is 0 : set a 1", "rule after wait any : a is 1 : set a 0",
                      "scene fog : a is 1 : b is 1")
        self.assertEqual([moment[1] for moment in closed_moments(world)], [(), ("fog",), ("fog",)])

    def test_none_behind_an_end(self):
        world = waits("rule after wait any : a is 0 : set a 1", "rule after wait any : a is 1 : set a 2", "end done : a is 1",
                      "end gone : a is 2")
        self.assertEqual([moment[3] for moment in closed_moments(world)], ["", "done"])
        world = waits("rule after wait any : a is 0 : set a 1", "end done : always")
        self.assertEqual([moment[3] for moment in closed_moments(world)], ["done"])

    def test_refused_deeds_are_no_steps(self):
        world = looked("place hall", "thing rock rock : at hall fixed", "state luck 0",
                       "rule before take rock : always : set luck 1")
        self.assertEqual(len(closed_moments(world)), 1)

    def test_a_hundred_and_more(self):
        for many in (1, 2, 50, 99, 100):
            self.assertEqual(len(closed_moments(counter(many))), many)
        for world in (counter(101), counter(125), manor()):
            before = world.told()
            with self.assertRaises(TooGreat) as caught:
                closed_moments(world)
            self.assertIs(type(caught.exception), TooGreat)
            self.assertEqual(world.told(), before)

    def test_the_asker_s_own(self):
        world = counter(3)
        closed_moments(world).clear()
        self.assertEqual(len(closed_moments(world)), 3)


class TestWayTo(unittest.TestCase):
    def test_an_end_that_is_there_at_once(self):
        world = waits("end gone : a is 1", "end done : a is 0", "end late : always")
        for most in range(9):
            self.assertEqual(way_to(world, "done", most), [])
            self.assertIsNone(way_to(world, "gone", most))
            self.assertIsNone(way_to(world, "late", most))

    def test_at_most_so_many_steps(self):
        world = counter(6)
        for most in range(9):
            self.assertEqual(way_to(world, "last", most), [WAIT] * 5 if most >= 5 else None)

    def test_an_end_that_no_way_leads_to(self):
        for most in range(9):
            self.assertIsNone(way_to(waits("end done : a is 1"), "done", most))

    def test_the_first_by_the_order_of_deeds(self):
        for span, world in SMALL_WORLDS:
            tried = by_trying(world, 4, span)
            for name in [row[0] for row in world.told()[7]]:
                ways = [way for moment, way in tried.items() if moment[3] == name]
                for most in range(5):
                    wanted = [way for way in ways if len(way) <= most]
                    self.assertEqual(way_to(world, name, most), wanted[0] if wanted else None)

    def test_ways_of_several_ends(self):
        world = SMALL_WORLDS[1][1]
        self.assertEqual(way_to(world, "done", 8), [("drop", "bag", "", ""), ("put", "pin", "in", "bag")])
        self.assertEqual(way_to(world, "floor", 8), [("drop", "pin", "", "")])
        self.assertEqual(way_to(SMALL_WORLDS[2][1], "done", 8), [WAIT] * 4)

    def test_said_aloud_as_commands_it_comes_to_its_end_with_the_last(self):
        for world, name in ((counter(6), "last"), (cupboard(), "four"), (cupboard(), "three"), (SMALL_WORLDS[1][1], "done"),
                            (SMALL_WORLDS[0][1], "worn"), (SMALL_WORLDS[0][1], "far"), (SMALL_WORLDS[2][1], "done")):
            way = way_to(world, name, 8)
            play = Play(world)
            for deed in way:
                self.assertIsNone(play.ended_by())
                play.say(aloud(world, deed))
            self.assertEqual((play.ended_by(), play.turn_number()), (name, len(way)))

    def test_a_hundred_moments_and_more_by_its_steps(self):
        for world in (cupboard(), cupboard("loft")):
            self.assertEqual(way_to(world, "four", 4), [("open", box, "", "") for box in "abcd"])
            self.assertEqual(way_to(world, "four", 8), [("open", box, "", "") for box in "abcd"])
            self.assertEqual(way_to(world, "three", 8), [("open", box, "", "") for box in "efg"])
            self.assertIsNone(way_to(world, "never", 4))
            self.refused(world, "never", 5)
        # The way is found with the first of its last moments, but these are all gone through.
        world = cupboard("loft", "attic")
        self.assertEqual(way_to(world, "three", 8), [("open", box, "", "") for box in "efg"])
        self.assertIsNone(way_to(world, "four", 3))
        for name in ("four", "five", "never"):
            for most in (4, 5, 8):
                self.refused(world, name, most)

    def refused(self, world, name, most):
        before = world.told()
        with self.assertRaises(TooGreat) as caught:
            way_to(world, name, most)
        self.assertIs(type(caught.exception), TooGreat)
        self.assertEqual(world.told(), before)

    def test_no_more_is_gone_through_than_by_most(self):
        world = manor()
        self.assertIsNone(way_to(world, "rich", 0))
        self.assertIsNone(way_to(world, "rich", 1))
        self.assertIsNone(way_to(world, "lost", 1))

    def test_names_that_no_end_has(self):
        for name in (*NOTHING_THERE, "hall", "fog", "luck"):
            with self.assertRaises(OutOfPlace):
                way_to(manor(), name, 0)
            with self.assertRaises(OutOfPlace):
                way_to(looked("place hall"), name, 8)

    def test_the_asker_s_own(self):
        world = counter(6)
        way_to(world, "last", 8).clear()
        self.assertEqual(len(way_to(world, "last", 8)), 5)


def aloud(world, deed):
    """A deed as a command, each thing by all that it is named by."""
    verb, what, link, holder = deed
    names = {row[0]: " ".join([*row[2], row[1]]) for row in world.told()[1]}
    words = [verb, names.get(what, what), link, names.get(holder, holder)]
    return " ".join([word for word in words if word != ""])


if __name__ == "__main__":
    unittest.main()
