import unittest
import unittest.mock

from framemoves.errors import Unlike, Wrong
from framemoves.recipes import Recipe
from support import Pleasing, any_values, full, in_lists, nested, plain_put, random_term, seeded, unchanged

FAR = 10 ** 47 + 3


class MakingTest(unittest.TestCase):
    def check(self, place, *things):
        with self.assertRaises(Wrong) as caught:
            Recipe(*things)
        self.assertEqual(vars(caught.exception), {"place": place})

    def test_variables(self):
        for thing in [None, True, False, -1, "1", (1,), [1], {}, 1j, Pleasing(), Recipe(1, [])]:
            self.check(0, thing, [])
            self.check(0, thing, None)

    def test_terms(self):
        for thing in any_values():
            if thing != []:
                self.check(1, 2, thing)
        for thing in [[2], (2,), [0, 1, ("f", 2)], [("g", 0, ("f", ("f", FAR)))], [True], [0, None], ["f"], [["f"]], {0: 0},
                      "ab", [-1], in_lists(30), [0] * 9000 + [2], Recipe(2, [0]), range(2), {0}]:
            self.check(1, 2, thing)
        self.check(1, 0, [0])

    def test_lists_and_tuples(self):
        one = Recipe(2, [("f", 1), 0, 0])
        for other in (Recipe(2, (("f", 1), 0, 0)), unchanged(self, Recipe, 2, [("f", 1), 0, 0])):
            self.assertEqual([other, other.variables, other.terms, len(other)], [one, 2, (("f", 1), 0, 0), 3])

    def test_over_none_and_over_very_many(self):
        none = Recipe(0, [("c",), ("f", ("c",))])
        self.assertEqual([none.variables, none(()), len(none)], [0, (("c",), ("f", ("c",))), 2])
        self.assertEqual([Recipe(0, []).terms, Recipe(0, ())(()), len(Recipe(5, []))], [(), (), 0])
        many = Recipe(FAR, [FAR - 1, 3])
        self.assertEqual([many.variables, many.terms, repr(many)], [FAR, (FAR - 1, 3), f"Recipe({FAR}, ({FAR - 1}, 3))"])

    def test_copies(self):
        terms = [0, 1]
        one = Recipe(2, terms)
        terms.append(0)
        terms[0] = ("c",)
        self.assertEqual([one.terms, one((5, 6))], [(0, 1), (5, 6)])

    def test_nothing_can_be_assigned(self):
        one = Recipe(2, [0])
        for name in ("variables", "terms"):
            with self.assertRaises(AttributeError):
                setattr(one, name, 3)


class CallTest(unittest.TestCase):
    def test_values(self):
        one = Recipe(3, [("g", 0, 2), 1, ("c",), 1])
        self.assertEqual(unchanged(self, one, (7, ("f", 0), 9)), (("g", 7, 9), ("f", 0), ("c",), ("f", 0)))

    def test_as_told_a_second_time(self):
        rng = seeded(60)
        for _ in range(200):
            terms = [random_term(rng, 3, range(3)) for _ in range(rng.randrange(5))]
            values = tuple(random_term(rng, 2, range(5)) for _ in range(3))
            self.assertEqual(Recipe(3, terms)(values), tuple(plain_put(term, values) for term in terms))

    def test_great_values(self):
        self.assertEqual(Recipe(1, [nested(150)])((nested(150),)), (nested(300),))
        one = Recipe(1, [("f", 0, 0)])((full(12),))
        self.assertEqual(one, (full(13),))


class BehindTest(unittest.TestCase):
    def test_one_behind_another(self):
        one, other = Recipe(3, [("g", 0, 2), 1]), Recipe(2, [1, ("f", 0), ("h", 0, 1, ("c",))])
        both = unchanged(self, one.__mul__, other)
        self.assertEqual(both, Recipe(3, [1, ("f", ("g", 0, 2)), ("h", ("g", 0, 2), 1, ("c",))]))
        self.assertEqual([both.variables, len(both), both((5, 6, 7))], [3, 3, other(one((5, 6, 7)))])

    def test_as_told_a_second_time(self):
        rng = seeded(61)
        for _ in range(200):
            parts = [rng.randrange(1, 4) for _ in range(4)]
            rows = [Recipe(many, [random_term(rng, 2, range(many)) for _ in range(more)]) for many, more in zip(parts, parts[1:])]
            values = tuple(random_term(rng, 1, range(5)) for _ in range(parts[0]))
            self.assertEqual((rows[0] * rows[1])(values), rows[1](rows[0](values)))
            self.assertEqual((rows[0] * rows[1]) * rows[2], rows[0] * (rows[1] * rows[2]))
            told = [plain_put(term, rows[0].terms) for term in rows[1].terms]
            self.assertEqual(rows[0] * rows[1], Recipe(parts[0], told))
            self.assertEqual((rows[0] * rows[1]).terms, tuple(told))

    def test_unlike(self):
        one = Recipe(3, [0, 1])
        for other in [Recipe(3, [0, 1]), Recipe(1, [0]), Recipe(0, []), Recipe(FAR, [])]:
            with self.assertRaises(Unlike):
                one * other
        self.assertEqual(one * Recipe(2, []), Recipe(3, []))
        self.assertEqual(Recipe(3, []) * Recipe(0, [("c",)]), Recipe(3, [("c",)]))

    def test_none_is_changed(self):
        one, other = Recipe(1, [("f", 0), 0]), Recipe(2, [("g", 0, 1)])
        one * other
        self.assertEqual([one.terms, other.terms, one.variables], [(("f", 0), 0), (("g", 0, 1),), 1])

    def test_terms_that_double(self):
        one = made = Recipe(1, [("f", 0, 0)])
        for _ in range(200):
            made = made * one
        self.assertEqual([len(made), made == made * Recipe.keeping(1), made == one], [1, True, False])


class KeepingTest(unittest.TestCase):
    def test_keeping(self):
        for many in (0, 1, 6, 48):
            one = Recipe.keeping(many)
            self.assertEqual([one, one.variables], [Recipe(many, list(range(many))), many])
            values = tuple(("f", at) for at in range(many))
            self.assertEqual(one(values), values)
        one = Recipe(3, [("g", 0, 2), 1])
        self.assertEqual([Recipe.keeping(3) * one, one * Recipe.keeping(2)], [one, one])
        self.assertIsInstance(vars(Recipe)["keeping"], staticmethod)


class SameTest(unittest.TestCase):
    def test_equal(self):
        one = Recipe(3, [("g", 0, 2), 1])
        self.assertTrue(one == Recipe(3, (("g", 0, 2), 1)) and not one != Recipe(3, [("g", 0, 2), 1]))
        for other in [Recipe(4, [("g", 0, 2), 1]), Recipe(3, [("g", 0, 2)]), Recipe(3, [1, ("g", 0, 2)]),
                      Recipe(3, [("g", 2, 0), 1]), Recipe(3, [("g", 0, 2), 1, 1]), Recipe(3, [("h", 0, 2), 1]), Recipe(3, [])]:
            self.assertTrue(one != other and not one == other)
            self.assertTrue(other != one)
        self.assertFalse(Recipe(3, [0, 1]) == Recipe(3, [1, 0]))
        self.assertFalse(Recipe(3, [("f", 0), 0]) == Recipe(3, [("f", 1), 1]))

    def test_equal_to_nothing_else(self):
        one = Recipe(1, [0])
        for thing in any_values() + [(0,), [0], repr(one), 1, unittest.mock.ANY]:
            self.assertIs(one == thing, False)
            self.assertIs(one != thing, True)

    def test_repr(self):
        self.assertEqual([repr(Recipe(3, [0, ("twice", 1)])), repr(Recipe(1, [0])), repr(Recipe(0, []))],
                         ["Recipe(3, (0, ('twice', 1)))", "Recipe(1, (0,))", "Recipe(0, ())"])


if __name__ == "__main__":
    unittest.main()
