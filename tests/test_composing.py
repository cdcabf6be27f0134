import unittest

from framemoves.codes import Code
from framemoves.composing import parting_road, there_and_back
from framemoves.errors import NoPlace, TooMany, Unlike
from framemoves.moves import is_right
from framemoves.needs import parting
from framemoves.recipes import Recipe
from framemoves.roads import road_frame
from plain import NAMES, WORLDS, plain_facts, plain_rounds, random_code, satisfies, varied
from support import nested, outcome_of, random_term, seeded, unchanged

GO = WORLDS[2]
WAYS = (("a", (), 0), ("b", (), 1), ("c", (), 2))
# Only the first variable is shown; the third one has always the value of the first one.
ONE = Code(GO, 3, 1, [("ask", "go", (), (("a", (), 1), ("b", (), 1), ("c", (), 1))),
                      ("set", ((1, ("f", 0)), (2, 0)), 2), ("ask", "go", (), (("a", (), 1), ("b", (), 3), ("c", (), 2))),
                      ("end", "out", (0,)), ("end", "bye", (0, 1))])
TWO = Code(GO, 2, 1, [("ask", "go", (), WAYS), ("end", "out", (0,)), ("end", "bye", (("g", 0, 1),))])


class PartingRoadTest(unittest.TestCase):
    def test_alike_and_not(self):
        for first, second, told in [([0, 1], [0, 1], None), ([0, 1], [2, 1], None), ([0, 1], [1, 1], ["b"]),
                                    ([0, 1], [0, 2], ["c"]), ([0, 1], [0, ("f", 2)], None), ([1, 1], [("f", 2), ("f", 0)], None)]:
            found = unchanged(self, parting_road, ONE, 2, TWO, 0, Recipe(3, first), Recipe(3, second))
            self.assertEqual(None if found is None else found[1], told)
            if found is not None:
                self.assertEqual(road_frame(ONE, found[0])[0], 2)
        self.assertIsNone(parting_road(ONE, 2, TWO, 1, Recipe(3, [0, 1]), Recipe(3, [0, 2])))
        self.assertEqual(parting_road(ONE, 2, TWO, 2, Recipe(3, [0, 1]), Recipe(3, [0, 2]))[1], [])

    def test_at_the_first_place_the_values_are_others(self):
        self.assertEqual(parting_road(ONE, 0, TWO, 0, Recipe(3, [0, 1]), Recipe(3, [2, 1])), (((), 0), ["b"]))
        self.assertIsNone(parting_road(ONE, 0, TWO, 0, Recipe(3, [1, 0]), Recipe(3, [2, 0])))

    def test_a_place_that_is_not_reached(self):
        self.assertIsNone(parting_road(ONE, 4, TWO, 0, Recipe(3, [0, 1]), Recipe(3, [("c",), ("c",)])))

    def test_wrong_at_one_road_only(self):
        rows = [("ask", "go", (), (("a", (), 1), ("b", (), 2), ("c", (), 3)))]
        rows += [("set", ((0, (word,)), (1, ("c",))), 4) for word in ("c", "d", "c")] + [("end", "out", (0,))]
        one = Code(GO, 2, 2, rows)
        self.assertEqual(parting_road(one, 4, TWO, 1, Recipe(2, [0, 0]), Recipe(2, [1, 0])), ((("b",), 1), []))

    def test_as_told_a_second_time(self):
        rng = seeded(70)
        told = [0, 0]
        for code, other, patterns, rounds in random_codes(rng, 150):
            place, there = rng.randrange(len(code)), rng.randrange(len(other))
            many = code.variables
            terms = [random_term(rng, 1, range(many), NAMES) for _ in range(many)]
            recipes = [Recipe(many, [random_term(rng, 1, range(many), NAMES) if rng.random() < 0.3 else term for term in terms])
                       for _ in range(2)]
            values = patterns[place].terms if patterns[place] is not None else None
            alike = values is None or satisfies(rounds[1][-1][there, there], recipes[0](values) + recipes[1](values))
            found = parting_road(code, place, other, there, *recipes)
            self.assertEqual(found is None, alike)
            told[alike] += 1
            if found is not None:
                frame = road_frame(code, found[0])
                made = [(there, recipe(frame[1])) for recipe in recipes]
                self.assertEqual((frame[0], parting(other, made[0], other, made[1])), (place, found[1]))
        self.assertGreater(min(told), 5)


def random_codes(rng, count):
    """Random codes of equally many variables, their facts, and the rounds of each with itself."""
    for _ in range(count):
        code = random_code(rng, rng.choice(WORLDS), rng.randrange(2, 4), 2, rng.randrange(1, 5), 1)
        other = varied(rng, code)
        facts, rounds = outcome_of(plain_facts, code), [outcome_of(plain_rounds, one, one) for one in (code, other)]
        if TooMany not in (facts[0], rounds[0][0], rounds[1][0]):
            yield code, other, facts[1], rounds


class ThereAndBackTest(unittest.TestCase):
    def test_same_alike_changed(self):
        keep = Recipe.keeping(2)
        for recipe, back, told in [([0, 1], [0, 1, 0], "same"), ([0, 1], [0, ("f", 0), 0], "same"), ([2, 1], [0, 1, 0], "same"),
                                   ([0, ("c",)], [0, ("f", 0), 0], "same"), ([0, 1], [0, 0, 0], "alike"),
                                   ([0, 1], [0, 1, ("c",)], "alike"), ([0, 1], [1, 1, 0], "changed"),
                                   ([1, 0], [0, 1, 0], "changed"), ([1, 0], [1, 0, 1], "same")]:
            call = ONE, 2, TWO, 0, Recipe(3, recipe), Recipe(2, back)
            self.assertEqual(unchanged(self, there_and_back, *call), told)
        # Further on its second and third variable are not shown either, but they are not what they were.
        self.assertEqual(there_and_back(ONE, 3, TWO, 1, Recipe(3, [0, 1]), Recipe(2, [0, ("c",), ("c",)])), "alike")
        self.assertEqual(there_and_back(TWO, 0, TWO, 0, keep, keep), "same")
        self.assertEqual(there_and_back(TWO, 0, TWO, 0, keep, Recipe(2, [0, 0])), "changed")
        self.assertEqual(there_and_back(TWO, 1, TWO, 0, keep, Recipe(2, [0, 0])), "alike")

    def test_a_place_that_is_not_reached(self):
        self.assertEqual(there_and_back(ONE, 4, TWO, 0, Recipe(3, [0, 1]), Recipe(2, [1, 1, 1])), "same")

    def test_right_moves_need_not_bring_the_same_back(self):
        recipe, back = Recipe(3, [0, ("c",)]), Recipe(2, [0, ("c",), 0])
        self.assertIs(is_right(ONE, 3, TWO, 1, recipe), True)
        self.assertIs(is_right(TWO, 1, ONE, 3, back), True)
        self.assertEqual(there_and_back(ONE, 3, TWO, 1, recipe, back), "alike")

    def test_as_told_a_second_time(self):
        rng = seeded(71)
        kinds = {}
        for code, other, patterns, rounds in random_codes(rng, 200):
            many = code.variables
            place = rng.randrange(len(code))
            made = [Recipe(many, [random_term(rng, 1, range(many), NAMES) if rng.random() < 0.2 else at for at in range(many)])
                    for _ in range(2)]
            values = None if patterns[place] is None else patterns[place].terms
            told = "same"
            if values is not None and made[1](made[0](values)) != values:
                alike = satisfies(rounds[0][-1][place, place], values + made[1](made[0](values)))
                told = "alike" if alike else "changed"
            self.assertEqual(there_and_back(code, place, other, 0, *made), told)
            kinds[told] = kinds.get(told, 0) + 1
        self.assertEqual(len(kinds), 3)
        self.assertGreater(min(kinds.values()), 10)


class ErrorsTest(unittest.TestCase):
    def calls(self, one, place, other, there):
        made = Recipe(one.variables, [("c",)] * other.variables)
        return [(parting_road, (one, place, other, there, made, made)),
                (there_and_back, (one, place, other, there, made, Recipe(other.variables, [("c",)] * one.variables)))]

    def test_unlike_and_no_place(self):
        far = Code(WORLDS[0], 1, 1, [("set", ((0, nested(250)),), 1), ("end", "out", ())])
        for call, things in self.calls(ONE, 9, far, 9):
            self.assertEqual(unchanged(self, call, *things), (Unlike, {}))
        great = Code(GO, 1, 1, [("set", ((0, nested(250)),), 1), ("end", "out", ())])
        for place, there, told in [(5, 3, 5), (-1, 0, -1), (0, 3, 3), (0, -1, -1)]:
            for call, things in self.calls(ONE, place, TWO, there) + self.calls(ONE, place, great, there):
                self.assertEqual(unchanged(self, call, *things, most=1), (NoPlace, {"place": told}))

    def test_too_many(self):
        # The values of ONE have two operations at first.
        for call, things in self.calls(ONE, 0, TWO, 0):
            self.assertEqual(unchanged(self, call, *things, most=1), (TooMany, {"limit": 1}))
            self.assertNotEqual(outcome_of(call, *things, most=2), (TooMany, {"limit": 2}))

    def test_needs_of_the_code_whose_frames_are_compared(self):
        great = Code(GO, 1, 1, [("end", "out", (0,)), ("set", ((0, nested(9)),), 0)])
        small = Code(GO, 1, 1, [("end", "out", (0,))])
        for one, other, error in [(small, great, 0), (great, small, 1)]:
            for at, (call, things) in enumerate(self.calls(one, 0, other, 0)):
                told = outcome_of(call, *things, most=8)
                self.assertEqual(told == (TooMany, {"limit": 8}), at == error)
                self.assertNotEqual(outcome_of(call, *things, most=9), (TooMany, {"limit": 9}))
        # Also where nothing else would be asked: the same comes back, the place is not reached.
        keep = Recipe.keeping(1)
        self.assertEqual(outcome_of(there_and_back, great, 0, small, 0, keep, keep, most=8), (TooMany, {"limit": 8}))
        self.assertEqual(outcome_of(parting_road, great, 1, great, 0, keep, keep, most=8), (TooMany, {"limit": 8}))

    def test_new_lists_are_returned(self):
        recipes = Recipe(3, [0, 1]), Recipe(3, [1, 1])
        parting_road(ONE, 2, TWO, 0, *recipes)[1].clear()
        self.assertEqual(parting_road(ONE, 2, TWO, 0, *recipes)[1], ["b"])


if __name__ == "__main__":
    unittest.main()
