import unittest
import unittest.mock

from framemoves.errors import BadAct, Wrong
from framemoves.worlds import World
from support import any_values, in_lists, unchanged

SIX = {"a": 0, "b": 1, "c": 2, "a-": 0, "b-": 1, "abcdefgh-": 2}


class MakingTest(unittest.TestCase):
    def test_what_it_tells(self):
        world = World({"work": (2, {"ok": 0, "bad-": 2, "bad": 1}), "check": (0, {"done": 0})})
        self.assertEqual(world.acts(), ["check", "work"])
        self.assertEqual([world.arguments("check"), world.arguments("work")], [0, 2])
        self.assertEqual([world.outcomes("check"), world.outcomes("work")], [["done"], ["bad", "bad-", "ok"]])
        self.assertEqual([world.brings("work", outcome) for outcome in world.outcomes("work")], [1, 2, 0])

    def test_without_acts(self):
        self.assertEqual(World({}).acts(), [])

    def test_one_and_six_outcomes(self):
        world = World({"one": (1, {"a": 0}), "six": (1, SIX)})
        self.assertEqual(world.outcomes("six"), ["a", "a-", "abcdefgh-", "b", "b-", "c"])
        self.assertEqual(world.outcomes("one"), ["a"])

    def test_an_outcome_with_a_sign_alone(self):
        self.assertEqual(World({"one": (0, {"a-": 1})}).outcomes("one"), ["a-"])
        self.check_bad("one", {"one": (0, {"-": 1})})
        self.check_bad("one", {"one": (0, {"a--": 1})})

    def test_names(self):
        self.assertEqual(World({"abcdefgh": (0, {"a": 0}), "z": (0, {"a": 0})}).acts(), ["abcdefgh", "z"])

    def check_bad(self, name, acts):
        with self.assertRaises(BadAct) as caught:
            World(acts)
        self.assertEqual(caught.exception.name, name)

    def test_wrong(self):
        good = (0, {"ok": 0})
        for thing in any_values() + [[], [("go", good)], (), {"": good}, {"abcdefghi": good}, {"go-": good}, {0: good},
                                     {None: good}, {b"go": good}, {"go": good, "Go": good}, {("go",): good},
                                     {"go": None, 1: good}, in_lists(30), World({})]:
            if thing != {} and thing != {"f": 0}:
                with self.assertRaises(Wrong) as caught:
                    World(thing)
                self.assertEqual(caught.exception.place, 0)

    def test_bad_acts(self):
        for thing in any_values() + [(0,), (0, {"ok": 0}, 0), [0, {"ok": 0}], (-1, {"ok": 0}), (3, {"ok": 0}),
                                     (True, {"ok": 0}), (False, {"ok": 0}), (None, {"ok": 0}), ("1", {"ok": 0}),
                                     (0, {}),
                                     (0, dict(SIX, d=0)), (0, [("ok", 0)]), (0, {"ok"}), (0, None), (0, {"ok": 3}),
                                     (0, {"ok": -1}), (0, {"ok": True}), (0, {"ok": None}), (0, {"Ok": 0}),
                                     (0, {"": 0}),
                                     (0, {0: 0}), (0, {None: 0}), (0, {"ok": 0, "abcdefghi": 0}), (0, {b"ok": 0}),
                                     (0, {"ok": [0]}), (0, {("ok",): 0}), ({"ok": 0}, 0), in_lists(28)]:
            self.check_bad("go", {"go": thing})

    def test_the_least_act_is_told(self):
        good, bad = (0, {"ok": 0}), (0, {})
        self.check_bad("b", {"c": bad, "b": bad, "a": good})
        self.check_bad("ab", {"b": bad, "ab": bad, "abc": None})

    def test_wrong_goes_ahead(self):
        with self.assertRaises(Wrong):
            World({"a": None, "B": None})


class SameTest(unittest.TestCase):
    def test_the_order_of_keys_means_nothing(self):
        one = World({"a": (0, {"x": 0, "y": 1}), "b": (1, {"x": 2})})
        other = World({"b": (1, {"x": 2}), "a": (0, {"y": 1, "x": 0})})
        self.assertTrue(one == other)
        self.assertFalse(one != other)
        self.assertEqual([one.acts(), one.outcomes("a")], [other.acts(), other.outcomes("a")])

    def test_not_equal(self):
        one = World({"a": (0, {"x": 0})})
        for acts in [{}, {"b": (0, {"x": 0})}, {"a": (1, {"x": 0})}, {"a": (0, {"x": 1})}, {"a": (0, {"y": 0})},
                     {"a": (0, {"x": 0, "y": 0})}, {"a": (0, {"x": 0}), "b": (0, {"x": 0})}, {"a": (0, {"x-": 0})}]:
            self.assertTrue(one != World(acts))
            self.assertFalse(one == World(acts))
            self.assertTrue(World(acts) != one)

    def test_equal_to_nothing_else(self):
        acts = {"a": (0, {"x": 0})}
        for thing in any_values() + [acts]:
            self.assertIs(World(acts) == thing, False)
            self.assertIs(World(acts) != thing, True)
        self.assertIs(World({}) == unittest.mock.ANY, False)
        self.assertIs(World({}) == {}, False)


class CopiesTest(unittest.TestCase):
    def test_what_is_handed_in(self):
        outcomes = {"x": 0}
        acts = {"a": (0, outcomes)}
        world = unchanged(self, World, acts)
        outcomes["y"] = 1
        outcomes["x"] = 2
        acts["b"] = (0, {"x": 0})
        self.assertEqual([world.acts(), world.outcomes("a"), world.brings("a", "x")], [["a"], ["x"], 0])
        self.assertEqual(world, World({"a": (0, {"x": 0})}))

    def test_what_is_returned(self):
        world = World({"a": (0, {"x": 0})})
        world.acts().append("b")
        world.outcomes("a").append("y")
        self.assertEqual([world.acts(), world.outcomes("a")], [["a"], ["x"]])


if __name__ == "__main__":
    unittest.main()
