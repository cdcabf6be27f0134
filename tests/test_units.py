import itertools
import unittest
import unittest.mock

from framemoves.codes import Code
from framemoves.errors import BadFunction, NoFunction, Wrong
from framemoves.units import Unit
from framemoves.worlds import World
from plain import WORLDS
from support import Pleasing, any_values, in_lists, nested, outcome_of, unchanged

GO = WORLDS[2]
GET = WORLDS[1]
BACK = (0, 0, 0, [("back", ())])
WAYS = (("c", (), 0), ("a", (), 1), ("b", (), 0))
FULL = (3, 2, 2, [("set", ((2, 0), (0, ("f", 2))), 1), ("ask", "go", (), WAYS), ("call", "other", (("f", 1),), (2, 0), 0),
                  ("back", (("f", 1), 2)), ("end", "out", (0,))])
OTHER = (1, 1, 2, [("back", (0, ("c",)))])


def calls(*names):
    """A function that calls others, none of which takes or returns anything."""
    return (0, 0, 0, [("call", name, (), (), at + 1) for at, name in enumerate(names)] + [("back", ())])


class WrongTest(unittest.TestCase):
    def check(self, place, *things):
        self.assertEqual(outcome_of(Unit, *things), (Wrong, {"place": place}))

    def test_world(self):
        for thing in any_values() + [World, {}, Code(GO, 0, 0, [("end", "out", ())])]:
            self.check(0, thing, {"main": BACK})
            self.check(0, thing, None)

    def test_functions(self):
        for thing in any_values() + [[BACK], (("main", BACK),), {"Main": BACK}, {"main": BACK, "": BACK}, {"main": BACK, 0: BACK},
                                     {"ninechars": BACK}, {"main": BACK, None: BACK}, {Pleasing(): BACK}, {"main-": BACK}, in_lists(30)]:
            if not (isinstance(thing, dict) and list(thing) == ["f"]):
                self.check(1, GO, thing)
        self.check(1, GO, {})


class FunctionsTest(unittest.TestCase):
    def check(self, name, functions, world=GO):
        self.assertEqual(outcome_of(Unit, world, functions), (BadFunction, {"name": name}))

    def test_no_such_tuple(self):
        bad = any_values() + [BACK[:3], BACK + (0,), list(BACK), (9, 0, 0, BACK[3]), (-1, 0, 0, BACK[3]), (0, 1, 0, BACK[3]),
                              (3, 4, 0, BACK[3]), (3, -1, 0, BACK[3]), (0, 0, 3, BACK[3]), (0, 0, -1, BACK[3]), (0, 0, 0, []),
                              (0, 0, 0, ()), (0, 0, 0, {0: BACK[3][0]}), (0, 0, 0, None), (True, 0, 0, BACK[3]), (1, True, 0, BACK[3]),
                              (0, 0, False, BACK[3]), (Pleasing(), 0, 0, BACK[3]), in_lists(30)]
        for thing in bad:
            self.check("main", {"main": thing})
            self.check("beta", {"main": thing, "beta": thing, "alpha": BACK})
        for many, given, results in itertools.product((0, 8), (0, 8), (0, 2)):
            if given <= many:
                terms = (("c",),) * results
                self.assertIsInstance(Unit(GO, {"main": (many, given, results, (("back", terms),))}), Unit)

    def test_statements(self):
        bad = any_values() + [("back",), ("back", 0), ("back", (0,)), ("back", (0, 1, 2)), ("back", (0, 3)), ("back", [0, 1]), ("back", (0, "f")),
                              ("back", (0, 1), 0), ("call", "other", (0,), (0, 1)), ("call", "other", (0,), (0, 1), 5),
                              ("call", "other", (0,), (0, 1), -1), ("call", "other", (0,), (0, 1), True), ("call", "none", (0,), (0, 1), 0),
                              ("call", "other", (), (0, 1), 0), ("call", "other", (0, 1), (0, 1), 0), ("call", "other", (3,), (0, 1), 0),
                              ("call", "other", (0,), (0,), 0), ("call", "other", (0,), (0, 0), 0), ("call", "other", (0,), (0, 3), 0),
                              ("call", "other", (0,), [0, 1], 0), ("call", "other", [0], (0, 1), 0), ("call", "other", (0,), (0, 1, 2), 0),
                              ("call", None, (0,), (0, 1), 0), ("call", ["other"], (0,), (0, 1), 0), ("call", Pleasing(), (0,), (0, 1), 0),
                              ("call", "other", (0,), (0, 1), 0, 0), ("call", "other", (0,), (True, 2), 0), ("call", "other", (None,), (0, 1), 0),
                              ("set", ((0, 3),), 0), ("set", (), 5), ("set", ((0, 1), (0, 2)), 0), ("ask", "go", (), WAYS[:2]),
                              ("ask", "gone", (), WAYS), ("end", "out", (0, 1, 2)), ("end", "Out", ()), ["back", (0, 1)], (Pleasing(), (0, 1)), (),
                              (Pleasing(), "other", (0,), (0, 1), 0)]
        for thing in bad:
            rows = FULL[3][:4] + [thing]
            self.check("main", {"main": FULL[:3] + (rows,), "other": OTHER})
            self.check("act", {"main": FULL[:3] + (rows,), "act": FULL[:3] + (tuple(rows),), "other": OTHER})
        self.check("main", {"main": FULL})
        self.check("main", {"main": FULL, "other": OTHER}, GET)
        self.assertIsInstance(Unit(GO, {"main": FULL, "other": OTHER}), Unit)

    def test_calls_of_itself(self):
        self.check("main", {"main": calls("main")})
        self.check("mid", {"top": calls("mid"), "mid": calls("mid"), "low": BACK, "beta": calls("mid")})
        self.check("beta", {"beta": calls("mid"), "mid": calls("low"), "low": calls("beta"), "alpha": calls("mid")})
        self.check("low", {"zeta": calls("low"), "low": calls("zeta")})
        self.check("b", {"a": calls("b"), "b": calls("c"), "c": calls("d", "b"), "d": BACK})
        # Each call counts, also one to which no statement leads.
        self.check("main", {"main": (0, 0, 0, [("end", "out", ()), ("call", "main", (), (), 0)])})

    def test_deep_calls(self):
        chain = {"a": calls("b"), "b": calls("c"), "c": calls("d"), "d": BACK}
        self.check("a", chain)
        self.assertIsInstance(Unit(GO, {name: chain[name] for name in "bcd"}), Unit)
        self.check("b", {"z": calls("b"), "b": calls("x"), "x": calls("y"), "y": calls("w"), "w": BACK, "a": calls("y")})
        self.check("a", {"a": calls("d", "b"), "b": calls("d", "c"), "c": calls("d"), "d": BACK})
        self.check("a", {"a": (0, 0, 0, [("end", "out", ()), ("call", "b", (), (), 0)]), "b": calls("c"), "c": calls("d"), "d": BACK})
        self.assertIsInstance(Unit(GO, {"a": calls("d", "b", "c", "d"), "b": calls("d", "e"), "c": calls("d"), "d": BACK, "e": BACK}), Unit)

    def test_which_refusal_comes_first(self):
        deep = {"a": calls("b"), "b": calls("c"), "c": calls("d"), "d": BACK}
        ring = dict(deep, y=calls("z"), z=calls("y"))
        statement = dict(ring, w=(0, 0, 0, [("back", (0,))]))
        shape = dict(statement, x=(0, 0, 3, [("back", ())]))
        for functions, name in [(deep, "a"), (ring, "y"), (statement, "w"), (shape, "x")]:
            for order in (sorted(functions), sorted(functions)[::-1]):
                self.check(name, {key: functions[key] for key in order})
        # A function that calls one that may call itself is none of these.
        self.check("y", {"a": calls("y"), "y": calls("z"), "z": calls("y")})

    def test_many_functions(self):
        names = ["".join(letters) for letters in itertools.product("abcdefghij", repeat=3)]
        many = {name: calls(*names[at + 1:at + 2]) for at, name in enumerate(names)}
        self.check("aaa", many)
        self.check("aaa", dict(many, **{names[-1]: calls("aaa")}))
        self.check("jji", dict(many, **{names[-1]: calls("jji")}))
        self.assertEqual(len(Unit(GO, {name: BACK for name in names}).functions()), 1000)


class UnitTest(unittest.TestCase):
    def test_what_it_tells(self):
        functions = {"other": OTHER, "main": FULL}
        unit = unchanged(self, Unit, GO, functions)
        self.assertEqual([unit.world, unit.functions()], [GO, ["main", "other"]])
        self.assertEqual(unchanged(self, unit.function, "other"), (1, 1, 2, (("back", (0, ("c",))),)))
        self.assertEqual(unit.function("main"), (3, 2, 2, (
            ("set", ((0, ("f", 2)), (2, 0)), 1), ("ask", "go", (), (("a", (), 1), ("b", (), 0), ("c", (), 0))), FULL[3][2], FULL[3][3],
            FULL[3][4])))
        for name in ("none", "", "Main", "mains"):
            self.assertEqual(unchanged(self, unit.function, name), (NoFunction, {"name": name}))

    def test_copies(self):
        rows = list(FULL[3])
        functions = {"main": FULL[:3] + (rows,), "other": OTHER}
        unit = Unit(GO, functions)
        before = [unit.function("main"), unit.functions()]
        rows.clear()
        functions.clear()
        unit.functions().clear()
        self.assertEqual([unit.function("main"), unit.functions()], before)

    def test_equal(self):
        one = Unit(GO, {"main": FULL, "other": OTHER})
        world = World({"go": (0, {"c": 0, "b": 0, "a": 0})})
        for order in (("main", "other"), ("other", "main")):
            rows = {"main": FULL[:3] + (tuple([("set", FULL[3][0][1][::-1], 1)] + FULL[3][1:]),), "other": OTHER}
            same = Unit(world, {name: rows[name] for name in order})
            self.assertTrue(one == same and not one != same)
        wide = World({"go": (0, {"c": 0, "b": 0, "a": 0}), "gone": (0, {"a": 0})})
        for other in [Unit(wide, {"main": FULL, "other": OTHER}), Unit(GO, {"main": FULL, "other": OTHER, "more": BACK}),
                      Unit(GO, {"other": OTHER}), Unit(GO, {"main": (4,) + FULL[1:], "other": OTHER}),
                      Unit(GO, {"main": FULL[:3] + (FULL[3] + [("back", (0, 0))],), "other": OTHER})]:
            self.assertTrue(one != other and not one == other)
        for thing in any_values() + [GO, one.functions(), unittest.mock.ANY]:
            self.assertIs(one == thing, False)
            self.assertIs(one != thing, True)

    def test_nothing_can_be_assigned(self):
        with self.assertRaises(AttributeError):
            Unit(GO, {"main": BACK}).world = GO

    def test_deep_terms(self):
        self.assertIsInstance(Unit(GO, {"main": (1, 1, 1, [("back", (nested(200),))])}), Unit)

    def test_by_turns(self):
        one, other = Unit(GO, {"main": FULL, "other": OTHER}), Unit(GO, {"main": BACK})
        for _ in range(3):
            self.assertEqual([one.functions(), other.functions()], [["main", "other"], ["main"]])
            self.assertEqual(other.function("main"), (0, 0, 0, (("back", ()),)))


if __name__ == "__main__":
    unittest.main()
