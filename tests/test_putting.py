import unittest

from framemoves.alike import alike
from framemoves.calm import calm
from framemoves.errors import NoFunction, NoPlace, TooMany, Unfit
from framemoves.moves import is_right, recipe_for
from framemoves.putting import put_in
from framemoves.recipes import Recipe
from framemoves.unfolding import unfolded
from framemoves.units import Unit
from framemoves.yards import Yard
from plain import WORLDS
from plain_units import random_unit
from support import outcome_of, seeded, unchanged
from test_unfolding import DEEP, TOP, UNIT, chain_unit

GO = WORLDS[2]
NIL = ("nil",)


def terms_of(moves):
    return [(place, to, recipe.terms) for place, to, recipe in moves]


def calls_of(unit):
    """The list of the (name, place) of all calls."""
    return [(name, place) for name in unit.functions() for place, statement in enumerate(unit.function(name)[3])
            if statement[0] == "call"]


class ExampleTest(unittest.TestCase):
    def test_as_it_stands(self):
        self.assertEqual([(p, q, recipe.terms) for p, q, recipe in put_in(UNIT, "main", 0)[1]][:2],
                         [(0, 0, (0, ('nil',), ('nil',))), (1, 1, (0, 1, 2))])

    def test_all_of_it(self):
        unit, there, back = put_in(UNIT, "main", 0)
        self.assertEqual(unit, Unit(UNIT.world, {"twice": UNIT.function("twice"), "main": (3, 1, 0, [
            ("set", ((1, 0), (2, NIL)), 2), ("end", "out", (0,)), ("set", ((2, ("f", 1)),), 3),
            ("set", ((0, ("f", 2)), (1, NIL), (2, NIL)), 1)])}))
        rows = [(0, 0, (0, NIL, NIL)), (1, 1, (0, 1, 2)), (2, 2, (0, 1, 2)), (3, 3, (0, NIL, NIL))]
        self.assertEqual([terms_of(there), terms_of(back)], [rows, rows])
        self.assertTrue(all(recipe.variables == 3 for _, _, recipe in there + back))


class ByHandTest(unittest.TestCase):
    def test_a_call_within_a_called_function(self):
        unit, there, back = unchanged(self, lambda: put_in(DEEP, "top", 2))
        function = unit.function("top")
        self.assertEqual([function[:3], len(function[3])], [(3, 1, 2), 9])
        self.assertEqual(function[3][:2] + function[3][3:5], DEEP.function("top")[3][:2] + DEEP.function("top")[3][3:])
        self.assertEqual(function[3][2], ("set", ((2, 1),), 5))
        self.assertEqual(function[3][5:], (("call", "low", (), (2,), 6),
                                           ("ask", "go", (), (("a", (), 7), ("b", (), 7), ("c", (), 8))), ("end", "bye", (2,)),
                                           ("set", ((2, NIL),), 2)))
        for name in ("wide", "slim", "low"):
            self.assertEqual(unit.function(name), DEEP.function(name))
        # The old code has two, four and one variables, the new one three, four and one.
        self.assertEqual(terms_of(there)[0], (0, 0, (0, 1, NIL, NIL, NIL, NIL, NIL, NIL)))
        self.assertEqual(terms_of(there)[4:8], [(4, 4, (0, 1, 2, NIL, NIL, NIL, NIL, NIL)), (5, 5, (0, 1, NIL, 2, 3, 4, 5, NIL)),
                                                (6, 6, (0, 1, 2, 6, NIL, NIL, NIL, NIL)), (7, 7, (0, 1, NIL, 2, 3, 4, 5, 6))])
        self.assertEqual(terms_of(back)[4:8], [(4, 4, (0, 1, 2, NIL, NIL, NIL, NIL)), (5, 5, (0, 1, 3, 4, 5, 6, NIL)),
                                               (6, 6, (0, 1, 2, NIL, NIL, NIL, 3)), (7, 7, (0, 1, 3, 4, 5, 6, 7))])

    def test_a_call_of_an_inner_function(self):
        unit, there, back = put_in(DEEP, "wide", 0)
        self.assertEqual(unit.function("wide")[:3], (5, 2, 2))
        self.assertEqual(unit.function("wide")[3], (("set", ((4, NIL),), 3), ("set", ((0, 3), (3, 0)), 2), ("back", (("f", 0), 1)),
                                                    ("set", ((3, ("d",)), (4, NIL)), 1)))
        self.assertEqual(len(there), len(unfolded(DEEP, "wide").stacks()))
        self.assertEqual(unit.function("top"), DEEP.function("top"))

    def test_ways_of_the_caller_that_lead_to_the_call(self):
        rows = [("call", "low", (0,), (0,), 1), ("ask", "go", (), (("a", (), 0), ("b", (), 1), ("c", (), 2))), ("set", ((1, 0),), 0)]
        unit = Unit(GO, {"main": (2, 2, 0, rows), "low": (1, 1, 1, [("set", ((0, ("f", 0)),), 1), ("back", (0,))])})
        new, there, back = put_in(unit, "main", 0)
        self.assertEqual(new.function("main")[3][:3], (("set", ((2, 0),), 3), ("ask", "go", (), (("a", (), 0), ("b", (), 1), ("c", (), 2))),
                                                       ("set", ((1, 0),), 0)))
        self.assertEqual(new.function("main")[3][3:], (("set", ((2, ("f", 2)),), 4), ("set", ((0, 2), (2, NIL)), 1)))
        self.check_right(unit, "main", new, there, back)

    def check_right(self, unit, name, new, there, back):
        one, other = unfolded(unit, name).code, unfolded(new, name).code
        self.assertEqual(alike(one, other)[0], "alike")
        for place, to, recipe in there:
            self.assertIs(is_right(one, place, other, to, recipe), True)
        for place, to, recipe in back:
            self.assertIs(is_right(other, place, one, to, recipe), True)

    def test_each_call_one_behind_another(self):
        wide = (3, 2, 2, [("call", "low", (), (2,), 1), ("set", ((0, 2), (2, 0)), 2), ("back", (("f", 0), 1))])
        unit = Unit(GO, {"top": DEEP.function("top"), "slim": DEEP.function("slim"), "low": DEEP.function("low"), "wide": wide})
        while calls_of(unit):
            name, place = calls_of(unit)[-1]
            new, there, back = put_in(unit, name, place)
            self.check_right(unit, name, new, there, back)
            unit = new
        self.assertEqual(unit.function("top")[0], 8)


class ErrorsTest(unittest.TestCase):
    def test_which_comes_first(self):
        for name, place, error in [("none", 99, (NoFunction, {"name": "none"})), ("top", 5, (NoPlace, {"place": 5})),
                                   ("top", -1, (NoPlace, {"place": -1})), ("top", 0, (Unfit, {})), ("top", 4, (Unfit, {})),
                                   ("slim", 4, (NoPlace, {"place": 4})), ("slim", 3, (Unfit, {}))]:
            self.assertEqual(unchanged(self, put_in, DEEP, name, place), error)
        self.assertEqual(outcome_of(put_in, chain_unit(61), "main", 61), (NoPlace, {"place": 61}))
        self.assertEqual(outcome_of(put_in, chain_unit(61), "main", 0), (Unfit, {}))
        self.assertEqual(outcome_of(put_in, chain_unit(61), "main", 59), (TooMany, {"limit": 60}))
        self.assertEqual(len(put_in(chain_unit(60), "main", 58)[1]), 60)

    def test_eight_and_nine_variables(self):
        for many, called, fits in [(4, 4, True), (8, 0, True), (0, 8, True), (5, 4, False), (8, 1, False), (8, 8, False), (1, 8, False)]:
            functions = {"main": (many, 0, 0, [("call", "low", (), (), 1), ("end", "out", ())]), "low": (called, 0, 0, [("back", ())])}
            told = outcome_of(put_in, Unit(GO, functions), "main", 0)
            if fits:
                self.assertEqual(told[0].function("main")[0], 8)
            else:
                self.assertEqual(told, (TooMany, {"limit": 8}))
        # It is told ahead of stacks that are too many.
        chain = chain_unit(61)
        rows = chain.function("main")[3]
        self.assertEqual(outcome_of(put_in, Unit(GO, {"main": (8, 0, 0, rows), "low": (1, 0, 0, [("back", ())])}), "main", 59),
                         (TooMany, {"limit": 8}))


class SecondTest(unittest.TestCase):
    def test_codes_are_alike_and_moves_right(self):
        rng = seeded(82)
        count = 0
        for _ in range(150):
            unit = random_unit(rng)
            for name, place in calls_of(unit):
                told = outcome_of(put_in, unit, name, place)
                if told[0] == TooMany:
                    many = unit.function(name)[0] + unit.function(unit.function(name)[3][place][1])[0]
                    self.assertIs(many > 8, told[1] == {"limit": 8})
                    continue
                count += self.check(unit, name, place, *told)
        self.assertGreater(count, 60)

    def check(self, unit, name, place, new, there, back):
        """That all that is told of the call put in holds."""
        before, after = unfolded(unit, name), unfolded(new, name)
        count = len(unit.function(name)[3])
        for one, other, moves, written in [(before, after, there, self.inside), (after, before, back, self.outside)]:
            self.assertEqual([move[0] for move in moves], list(range(len(one.stacks()))))
            called = unit.function(name)[3][place][1]
            for at, to, recipe in moves:
                self.assertEqual(other.stacks()[to], written(one.stacks()[at], name, place, count, called))
                self.assertEqual((recipe.variables, len(recipe)), (one.code.variables, other.code.variables))
                told = outcome_of(is_right, one.code, at, other.code, to, recipe)
                self.assertIn(told, (True, (TooMany, {"limit": 200})))
                self.assertIn(outcome_of(recipe_for, one.code, at, other.code, to)[0], ("move", TooMany))
        self.assertIn(outcome_of(alike, before.code, after.code)[0], ("alike", TooMany))
        # Each function's own values are moved there and back, so that the yard is calm, too.
        moves = [(0, at, 1, to, recipe, "may") for at, to, recipe in there] + [(1, at, 0, to, recipe, "may") for at, to, recipe in back]
        self.assertIn(outcome_of(calm, Yard(before.code, [before.code, after.code], moves, begins=(0, 1)))[0], ("calm", TooMany))
        for other in unit.functions():
            if other != name:
                self.assertEqual(new.function(other), unit.function(other))
        return 1

    def inside(self, stack, name, place, count, called):
        if len(stack) > 1 and stack[:1] == ((name, place),):
            return ((name, count + stack[1][1]),) + stack[2:]
        return stack

    def outside(self, stack, name, place, count, called):
        if stack[0][1] >= count:
            return ((name, place), (called, stack[0][1] - count)) + stack[1:]
        return stack

    def test_new_lists(self):
        told = put_in(UNIT, "main", 0)
        told[1].clear()
        told[2].append(None)
        self.assertEqual([len(rows) for rows in put_in(UNIT, "main", 0)[1:]], [4, 4])
        self.assertEqual(TOP[3][1][0], "call")
        self.assertIsInstance(told[0], Unit)
        self.assertIsInstance(put_in(UNIT, "main", 0)[1][0][2], Recipe)


if __name__ == "__main__":
    unittest.main()
