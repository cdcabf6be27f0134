import itertools
import unittest

from framemoves.codes import Code
from framemoves.errors import NoPlace, TooMany, Unfit, Unlike
from framemoves.facts import kept_roads
from framemoves.moves import are_stuck, is_right, recipe_for, wrong_road
from framemoves.needs import needs, parting
from framemoves.recipes import Recipe
from framemoves.roads import road_frame
from framemoves.terms import unknowns
from framemoves.worlds import World
from plain import (NAMES, WORLDS, least_pattern, plain_facts, plain_rounds, plain_terms, random_code, road_values,
                   satisfies, varied)
from support import Pleasing, any_values, in_lists, nested, outcome_of, random_term, seeded, unchanged

WORLD = World({"less": (2, {"yes": 0, "no": 0}), "tell": (1, {"done": 0})})
PLAIN = Code(WORLD, 3, 2, [("ask", "less", (0, 1), (("no", (), 3), ("yes", (), 1))), ("set", ((2, ("twice", 1)),), 2),
                           ("ask", "tell", (2,), (("done", (), 0),)), ("end", "bye", ())])
FAST = Code(WORLD, 3, 2, [("set", ((2, ("twice", 1)),), 1), ("ask", "less", (0, 1), (("no", (), 3), ("yes", (), 2))),
                          ("ask", "tell", (2,), (("done", (), 1),)), ("end", "bye", ())])
GO = WORLDS[2]
ASK = ("ask", "go", (), (("a", (), 1), ("b", (), 2), ("c", (), 3)))
C, D = ("c",), ("d",)


def three(first, second, third, shown, variables=3):
    """A code in which three outcomes lead to three rows of values at place 4, where an end shows terms."""
    sets = [("set", tuple(enumerate(values)), 4) for values in (first, second, third)]
    return Code(GO, variables, variables, [ASK] + sets + [("end", "out", shown)])


def roads(*outcomes):
    return [((outcome,), 1) for outcome in outcomes]


# Any two of these frames can be moved with the first two variables kept, all three cannot.
TRIPLE = three((C, C, C), (D, C, D), (C, D, D), (2,))
LAST = Code(GO, 1, 1, [("end", "out", (0,))])
WRAPPED = Code(GO, 1, 1, [("end", "out", (("f", 0),))])


class ExampleTest(unittest.TestCase):
    def test_as_it_stands(self):
        self.assertEqual(repr(recipe_for(PLAIN, 0, FAST, 1)), "('move', Recipe(3, (0, 1, ('twice', 1))))")
        self.assertEqual(repr([recipe_for(FAST, 2, PLAIN, 2), recipe_for(PLAIN, 0, FAST, 1, keep=[0, 2])[0]]),
                         "[('move', Recipe(3, (0, 1, 2))), 'stuck']")
        self.assertEqual(wrong_road(PLAIN, 0, FAST, 1, Recipe(3, [0, 1, 2])), (((), 0), ["yes"]))


class RightTest(unittest.TestCase):
    def test_right_and_wrong_ones(self):
        for terms, right in [([0, 1, ("twice", 1)], True), ([0, 1, 2], False), ([1, 0, ("twice", 1)], False),
                             ([0, 1, ("twice", 0)], False)]:
            recipe = Recipe(3, terms)
            self.assertIs(unchanged(self, is_right, PLAIN, 0, FAST, 1, recipe), right)
            self.assertEqual(unchanged(self, wrong_road, PLAIN, 0, FAST, 1, recipe) is None, right)
        self.assertIs(is_right(FAST, 2, PLAIN, 2, Recipe.keeping(3)), True)
        self.assertIs(is_right(PLAIN, 3, FAST, 3, Recipe(3, [C, C, C])), True)
        self.assertIs(is_right(PLAIN, 3, FAST, 2, Recipe.keeping(3)), False)

    def test_wrong_at_one_road_only(self):
        # At the first road and at no other one the second variable is what the third one is.
        one = three((C, C, D), (D, C, D), (C, D, D), (1,))
        for terms, road in [([1], None), ([0], roads("b", "c")), ([C], roads("c")), ([D], roads("a", "b"))]:
            told = wrong_road(one, 4, LAST, 0, Recipe(3, terms))
            self.assertIs(is_right(one, 4, LAST, 0, Recipe(3, terms)), told is None)
            if road is None:
                self.assertIsNone(told)
            else:
                self.assertIn(told[0], road)
                self.assertEqual(told[1], [])

    def test_a_place_that_is_not_reached(self):
        one = Code(GO, 2, 2, [("end", "out", (0,)), ("end", "bye", (1,))])
        for terms in ([], [0], [("f", 1)]):
            self.assertIs(is_right(one, 1, Code(GO, len(terms), 0, [("end", "out", ())]), 0, Recipe(2, terms)), True)
            self.assertIsNone(wrong_road(one, 1, Code(GO, len(terms), 0, [("end", "out", ())]), 0, Recipe(2, terms)))
        for keep in (None, [], [0, 1]):
            self.assertEqual(recipe_for(one, 1, LAST, 0, keep=keep), ("move", Recipe(2, [("nil",)])))
            self.assertIs(are_stuck(one, 1, LAST, 0, keep, [((), 0)]), False)

    def test_great_recipes(self):
        recipe = made = Recipe(1, [("f", 0, 0)])
        for _ in range(100):
            made = made * recipe
        one = Code(GO, 1, 1, [("ask", "go", (), (("a", (), 0), ("b", (), 1), ("c", (), 0))), ("end", "out", (0,))])
        self.assertIs(is_right(one, 0, one, 0, made), False)
        self.assertEqual(wrong_road(one, 0, one, 0, made), (((), 0), ["b"]))
        self.assertIs(is_right(one, 0, Code(GO, 1, 1, [("set", (), 0)]), 0, made), False)
        silent = Code(GO, 1, 1, [("set", ((0, ("f", 0, 0)),), 0)])
        self.assertIs(is_right(silent, 0, silent, 0, made), True)

    def test_as_told_a_second_time(self):
        rng = seeded(61)
        told = [0, 0]
        for code, other, rounds, kept, patterns in random_moves(rng, 150):
            many = code.variables
            for _ in range(4):
                place, there = chosen_places(rng, rounds, kept)
                found = recipe_for(code, place, other, there)
                terms = found[1].terms if found[0] == "move" else list(range(many))
                terms = [random_term(rng, 1, range(many), NAMES) if rng.random() < 0.2 else term for term in terms]
                recipe = Recipe(many, terms)
                rows = rounds[-1][place, there]
                values = None if patterns[place] is None else patterns[place].terms
                right = values is None or satisfies(rows, values + recipe(values))
                self.assertIs(is_right(code, place, other, there, recipe), right)
                wrong = wrong_road(code, place, other, there, recipe)
                told[right] += 1
                self.assertEqual(wrong is None, right)
                if not right:
                    frame = road_frame(code, wrong[0])
                    self.assertEqual(frame[0], place)
                    self.assertEqual(parting(code, frame, other, (there, recipe(frame[1]))), wrong[1])
        self.assertGreater(min(told), 50)


def random_moves(rng, count):
    """Random codes of equally many variables, with what a plain second version tells of them."""
    for _ in range(count):
        code = random_code(rng, rng.choice(WORLDS), rng.randrange(2, 4), 2, rng.randrange(1, 5), 1)
        other = varied(rng, code)
        told = outcome_of(plain_facts, code), outcome_of(plain_rounds, code, other)
        if TooMany not in (told[0][0], told[1][0]):
            yield code, other, told[1], told[0][0], told[0][1]


def chosen_places(rng, rounds, kept):
    """Two places, mostly such that there is something to be moved rightly."""
    pairs = [pair for pair, rows in rounds[-1].items() if rows and kept[pair[0]]]
    return rng.choice(pairs if pairs and rng.random() < 0.8 else list(rounds[-1]))


class RecipeForTest(unittest.TestCase):
    def test_keeps(self):
        for keep in (None, [0, 1], [0, 1, 2]):
            self.assertEqual(unchanged(self, recipe_for, PLAIN, 0, FAST, 1, keep=keep),
                             ("move", Recipe(3, [0, 1, ("twice", 1)])))
        for keep in ([], [0], [1], [2], [0, 2], [1, 2]):
            self.assertEqual(unchanged(self, recipe_for, PLAIN, 0, FAST, 1, keep=keep), ("stuck", [((), 0)]))
        # Behind the set the third variable has what the second one has, in an operation.
        self.assertEqual(recipe_for(FAST, 1, PLAIN, 0), ("move", Recipe(3, [0, 1, ("nil",)])))
        self.assertEqual(recipe_for(FAST, 2, PLAIN, 2, keep=[0, 1]), ("move", Recipe(3, [0, 1, ("twice", 1)])))
        self.assertEqual(recipe_for(FAST, 2, PLAIN, 2, keep=[0, 2])[0], "stuck")
        self.assertEqual(recipe_for(PLAIN, 3, FAST, 3, keep=[]), ("move", Recipe(3, [("nil",)] * 3)))

    def test_the_least_kept_variable_with_a_value(self):
        one = Code(GO, 4, 1, [("set", ((1, ("f", 0)), (2, ("f", 0)), (3, ("nil",))), 1), ("end", "out", (("g", 2, 3), 3))])
        other = Code(GO, 2, 2, [("end", "out", (("g", 0, 1), 1))])
        for keep, terms in [(None, [1, 3]), ([2, 3], [2, 3]), ([0, 3], [("f", 0), 3]), ([0], [("f", 0), ("nil",)]),
                            ([1], [1, ("nil",)]), ([0, 1, 2], [1, ("nil",)])]:
            self.assertEqual(recipe_for(one, 1, other, 0, keep=keep), ("move", Recipe(4, terms)))
        for keep in ([], [3]):
            self.assertEqual(recipe_for(one, 1, other, 0, keep=keep), ("stuck", [((), 1)]))

    def test_equations_that_cannot_be_solved(self):
        one = three((C, C, C), (D, D, D), (("f", C), C, C), (0,))
        self.assertEqual(recipe_for(one, 4, WRAPPED, 0)[0], "stuck")
        self.assertIn(recipe_for(one, 4, WRAPPED, 0)[1], (roads("a"), roads("b")))
        self.assertEqual(recipe_for(one, 4, Code(GO, 1, 1, [("end", "bye", ())]), 0)[0], "stuck")
        self.assertEqual(recipe_for(one, 1, WRAPPED, 0), ("stuck", [(("a",), 0)]))
        self.assertEqual(recipe_for(one, 3, WRAPPED, 0), ("move", Recipe(3, [C])))
        alone = Code(GO, 1, 1, [("set", ((0, ("f", C)),), 1), ("end", "out", (0,))])
        self.assertEqual(recipe_for(alone, 1, WRAPPED, 0), ("move", Recipe(1, [C])))
        self.assertEqual(recipe_for(alone, 0, WRAPPED, 0), ("move", Recipe(1, [C])))

    def test_values_within_kept_values_are_not_kept(self):
        one = three((("f", C), C, C), (("f", D), C, C), (("f", C), D, D), (0,))
        told = recipe_for(one, 4, WRAPPED, 0)
        self.assertEqual([told[0], sorted(told[1])[-1]], ["stuck", (("b",), 1)])
        self.assertEqual(len(told[1]), 2)
        one = three((("f", C), C, C), (("f", D), D, C), (("f", C), C, D), (0,))
        self.assertEqual(recipe_for(one, 4, WRAPPED, 0), ("move", Recipe(3, [1])))
        self.assertEqual(recipe_for(one, 4, WRAPPED, 0, keep=[0, 2])[0], "stuck")

    def test_three_roads_are_needed(self):
        self.assertEqual(recipe_for(TRIPLE, 4, LAST, 0), ("move", Recipe(3, [2])))
        for keep in ([0, 1], [0], [1], []):
            told = recipe_for(TRIPLE, 4, LAST, 0, keep=keep)
            self.assertEqual([told[0], len(told[1])], ["stuck", 3 if len(keep) == 2 else 2])
        self.assertEqual(sorted(recipe_for(TRIPLE, 4, LAST, 0, keep=[0, 1])[1]), roads("a", "b", "c"))

    def test_as_told_a_second_time(self):
        rng = seeded(62)
        kinds = {}
        for code, other, rounds, kept, patterns in random_moves(rng, 250):
            many = code.variables
            place, there = chosen_places(rng, rounds, kept)
            keep = sorted(rng.sample(range(many), rng.randrange(many + 1))) if rng.random() < 0.6 else None
            every = list(range(many)) if keep is None else keep
            equations = needs(code, place, other, there)
            told = unchanged(self, recipe_for, code, place, other, there, keep=keep)
            if told[0] == "move":
                terms = [("nil",)] * many
                if patterns[place] is not None:
                    terms = plain_terms(equations, patterns[place].terms, every)
                self.assertEqual(told[1], Recipe(many, terms))
                self.assertLessEqual(set(unknowns(terms)), set(every))
                self.assertIs(is_right(code, place, other, there, told[1]), True)
                self.assertIs(are_stuck(code, place, other, there, keep, kept[place]), False)
            else:
                rows = [road_values(code, road) for road in told[1]]
                self.assertEqual({at for at, _ in rows}, {place})
                self.assertIs(are_stuck(code, place, other, there, keep, told[1][::-1]), True)
                for at in range(len(rows)):
                    less = [values for _, values in rows[:at] + rows[at + 1:]]
                    self.assertIs(are_stuck(code, place, other, there, keep, told[1][:at] + told[1][at + 1:]), False)
                    terms = plain_terms(equations, least_pattern(less).terms, every) if less else []
                    self.assertTrue(all(values + Recipe(many, terms)(values) in equations for values in less))
            kinds[told[0]] = kinds.get(told[0], 0) + 1
        self.assertGreater(min(kinds.values()), 30)

    def test_no_small_recipe_does_for_stuck_roads(self):
        rng = seeded(63)
        checked = 0
        for code, other, rounds, kept, _ in random_moves(rng, 200):
            place, there = chosen_places(rng, rounds, kept)
            keep = sorted(rng.sample(range(code.variables), rng.randrange(code.variables + 1)))
            told = recipe_for(code, place, other, there, keep=keep)
            if told[0] == "stuck" and code.variables == 2:
                frames = [road_values(code, road)[1] for road in told[1]]
                terms = [("nil",), ("c",)] + keep + [("f", part) for part in keep + [("nil",)]]
                terms += [("g", first, second) for first in keep for second in keep]
                for recipe in itertools.product(terms, repeat=2):
                    made = [values + Recipe(2, recipe)(values) for values in frames]
                    self.assertFalse(all(satisfies(rounds[-1][place, there], values) for values in made))
                checked += 1
        self.assertGreater(checked, 10)


class AreStuckTest(unittest.TestCase):
    def test_roads_in_any_order_twice_and_too_many(self):
        for many in range(4):
            for thing in itertools.permutations(roads("a", "b", "c"), many):
                self.assertIs(unchanged(self, are_stuck, TRIPLE, 4, LAST, 0, [0, 1], list(thing)), many == 3)
                self.assertIs(are_stuck(TRIPLE, 4, LAST, 0, None, list(thing)), False)
                self.assertIs(are_stuck(TRIPLE, 4, LAST, 0, [2], list(thing)), False)
                told = many > 1 and {(("a",), 1)} < set(thing)
                self.assertIs(are_stuck(TRIPLE, 4, LAST, 0, [], list(thing)), told)
        every = roads("a", "b", "c")
        self.assertIs(are_stuck(TRIPLE, 4, LAST, 0, [0, 1], every + every[:1]), False)
        self.assertIs(are_stuck(TRIPLE, 4, LAST, 0, [0, 1], every + [((), 0)]), False)
        self.assertIs(are_stuck(TRIPLE, 4, LAST, 0, [0, 1], every + [(("b",), 2)]), False)
        self.assertIs(are_stuck(TRIPLE, 4, LAST, 0, [], roads("a", "b", "c")), True)

    def test_roads_that_are_not_kept(self):
        rows = [("ask", "go", (), (("a", (), 0), ("b", (), 1), ("c", (), 2))), ("set", ((0, ("f", 0)), (1, 0)), 0),
                ("end", "out", (1,))]
        code = Code(GO, 2, 1, rows)
        self.assertEqual(len(kept_roads(code, 0)), 2)
        self.assertIs(are_stuck(code, 0, code, 0, [0], [((), 0), (("b",), 1)]), True)
        self.assertIs(are_stuck(code, 0, code, 0, [0], [((), 0), (("a", "b"), 1)]), True)
        self.assertIs(are_stuck(code, 0, code, 0, [0], [(("a", "b"), 1)]), True)
        self.assertIs(are_stuck(code, 0, code, 0, [1], [(("b", "b"), 1), (("b",), 1)]), False)

    def test_roads_that_are_too_great(self):
        rows = [("ask", "go", (), (("a", (), 1), ("b", (), 2), ("c", (), 2))), ("set", ((0, ("f", 0)), (1, ("f", 1))), 0),
                ("end", "out", (("f", 0),))]
        code = Code(GO, 2, 2, rows)
        last = Code(GO, 1, 1, [("end", "out", (("f", ("f", ("f", 0))),))])
        for count, most, stuck in [(1, 4, True), (2, 4, True), (3, 4, False), (3, 6, True), (4, 8, True), (4, 7, False)]:
            self.assertIs(are_stuck(code, 2, last, 0, [0], [(("a",) * count + ("b",), 0)], most=most), stuck, (count, most))
            self.assertIs(are_stuck(code, 2, last, 0, [0, 1], [(("b",), 0), (("a",) * count + ("b",), 0)], most=most), stuck)

    def test_any_value(self):
        every = roads("a", "b", "c")
        for thing in any_values() + [tuple(every), [], [every], every + [None], [(["a"], 1)] + every, every + [(("a",), True)],
                                     every + [((Pleasing(),), 1)], every + [Pleasing()], {road: 0 for road in every},
                                     in_lists(30), [((), 0)] * 5000, every + [(("a", "a"), 1)]]:
            self.assertIs(are_stuck(TRIPLE, 4, LAST, 0, [], thing), False, thing)


class ErrorsTest(unittest.TestCase):
    RECIPE = Recipe(3, [0])

    def calls(self):
        """All calls, with what they are passed behind the codes and the places."""
        return [(is_right, (self.RECIPE,)), (wrong_road, (self.RECIPE,)), (recipe_for, ()), (are_stuck, (None, []))]

    def test_unlike_and_no_place(self):
        great = Code(PLAIN.world, 1, 1, [("set", ((0, nested(250)),), 1), ("end", "out", ())])
        for call, more in self.calls():
            self.assertEqual(unchanged(self, call, TRIPLE, 9, great, 9, *more), (Unlike, {}))
            self.assertEqual(unchanged(self, call, TRIPLE, 5, LAST, 9, *more, most=1), (NoPlace, {"place": 5}))
            self.assertEqual(unchanged(self, call, TRIPLE, -1, LAST, 0, *more, most=1), (NoPlace, {"place": -1}))
            self.assertEqual(unchanged(self, call, TRIPLE, 0, LAST, 1, *more, most=1), (NoPlace, {"place": 1}))

    def test_unfit(self):
        for recipe in [Recipe(2, [0]), Recipe(4, [0]), Recipe(3, [0, 1]), Recipe(3, [])]:
            for call in (is_right, wrong_road):
                self.assertEqual(unchanged(self, call, TRIPLE, 4, LAST, 0, recipe, most=1), (Unfit, {}))
                self.assertEqual(outcome_of(call, TRIPLE, 5, LAST, 0, recipe), (NoPlace, {"place": 5}))
                self.assertEqual(outcome_of(call, TRIPLE, 4, PLAIN, 0, recipe), (Unlike, {}))

    def test_too_many(self):
        for call, more in self.calls():
            # Three constants stand in the values that are looked at.
            self.assertEqual(unchanged(self, call, TRIPLE, 0, LAST, 0, *more, most=2), (TooMany, {"limit": 2}))
            self.assertNotEqual(outcome_of(call, TRIPLE, 0, LAST, 0, *more, most=3), (TooMany, {"limit": 3}))
            # One needs operations for two places that do not matter.
            one = Code(GO, 3, 3, [("end", "out", ()), ("end", "bye", (nested(7),))])
            last = Code(GO, 1, 1, [("end", "out", ()), ("end", "bye", (0,))])
            self.assertEqual(unchanged(self, call, one, 0, last, 0, *more, most=6), (TooMany, {"limit": 6}))
            self.assertNotEqual(outcome_of(call, one, 0, last, 0, *more, most=7), (TooMany, {"limit": 7}))
            # Also if the place is not reached.
            self.assertEqual(outcome_of(call, one, 1, last, 0, *more, most=6), (TooMany, {"limit": 6}))

    def test_too_many_ahead_of_a_look_at_roads(self):
        for thing in (None, [], [((), 0)], roads("a")):
            self.assertEqual(outcome_of(are_stuck, TRIPLE, 4, LAST, 0, [], thing, most=2), (TooMany, {"limit": 2}))

    def test_values_that_a_recipe_makes_are_not_counted(self):
        one = Code(GO, 1, 1, [("end", "out", ())])
        self.assertIs(is_right(one, 0, one, 0, Recipe(1, [nested(300)]), most=1), True)

    def test_new_lists_are_returned(self):
        recipe_for(TRIPLE, 4, LAST, 0, keep=[0, 1])[1].clear()
        self.assertEqual(len(recipe_for(TRIPLE, 4, LAST, 0, keep=[0, 1])[1]), 3)
        wrong_road(PLAIN, 0, FAST, 1, Recipe.keeping(3))[1].clear()
        self.assertEqual(wrong_road(PLAIN, 0, FAST, 1, Recipe.keeping(3))[1], ["yes"])


if __name__ == "__main__":
    unittest.main()
