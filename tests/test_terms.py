import itertools
import unittest

from framemoves.terms import built, exceeds, numbered, put, size, unknowns
from support import full, nested, plain_put, plain_unknowns, random_term, seeded, unchanged

FAR = 10 ** 39 + 7


class ExampleTest(unittest.TestCase):
    def test_as_it_stands(self):
        self.assertEqual([put(("f", 1, ("c",)), [("a",), 7]), size([("f", 1, ("c",)), 0])], [("f", 7, ("c",)), 2])
        self.assertEqual(numbered([("g", 5, 2), 2, 9]), [("g", 0, 1), 1, 2])
        self.assertEqual([built(("f", ("g", 3), 8), [8, ("g", 3), 3], [0, 1]), built(("g", 3), [("g", ("g", 3))], [0])],
                         [("f", 1, 0), None])


class PutTest(unittest.TestCase):
    def test_each_unknown_is_replaced_once(self):
        self.assertEqual(put(("f", 0, 1), [1, 0]), ("f", 1, 0))
        self.assertEqual(put(0, (("f", 0),)), ("f", 0))
        self.assertEqual(put(2, [7, 8, FAR]), FAR)
        self.assertEqual(put(("h", 0, ("c",), ("g", 0)), [("g", 5)]), ("h", ("g", 5), ("c",), ("g", ("g", 5))))

    def test_without_unknowns(self):
        self.assertEqual(put(("c",), []), ("c",))
        self.assertEqual(put(("f", ("c",)), ()), ("f", ("c",)))

    def test_deep_terms(self):
        self.assertEqual(put(nested(20), [nested(20, 3)]), nested(40, 3))
        self.assertEqual(size([put(nested(5000), [nested(5000)])]), 10000)

    def test_as_told_a_second_time(self):
        rng = seeded(1)
        for _ in range(300):
            term = random_term(rng, 5, range(4))
            values = [random_term(rng, 3, range(9)) for _ in range(4)]
            self.assertEqual(unchanged(self, put, term, values), plain_put(term, values))
            self.assertEqual(put(term, tuple(values)), plain_put(term, values))


class SizeTest(unittest.TestCase):
    def test_operations_are_counted_as_often_as_they_stand(self):
        self.assertEqual([size([]), size(()), size([0, 1]), size([("c",), ("c",)])], [0, 0, 0, 2])
        self.assertEqual([size((("f", ("c",), ("c",)),)), size([full(7)]), size([nested(20), 4])], [3, 127, 20])

    def test_exceeds(self):
        self.assertEqual([exceeds([full(7), 3], most) for most in (0, 126, 127, 128)], [True, True, False, False])
        self.assertIs(exceeds([], 0), False)
        self.assertIs(exceeds((0, 1), 0), False)

    def test_exceeds_stops_early(self):
        term = 0
        for _ in range(200):
            term = ("f", term, term)
        self.assertIs(exceeds([term], 200), True)


class UnknownsTest(unittest.TestCase):
    def test_ascending_and_different(self):
        self.assertEqual(unknowns([("g", 5, 2), 2, ("f", ("f", 9)), FAR]), [2, 5, 9, FAR])
        self.assertEqual([unknowns([]), unknowns((("c",),)), unknowns((10, 9, 10))], [[], [], [9, 10]])

    def test_as_told_a_second_time(self):
        rng = seeded(2)
        for _ in range(200):
            terms = [random_term(rng, 5, range(0, 60, 7)) for _ in range(3)]
            told = unchanged(self, unknowns, terms)
            self.assertEqual(told, sorted(set().union(*map(plain_unknowns, terms))))


class NumberedTest(unittest.TestCase):
    def test_from_left_to_right(self):
        self.assertEqual(numbered([("h", ("g", 7, 3), 3, ("f", 9)), 4, 7]), [("h", ("g", 0, 1), 1, ("f", 2)), 3, 0])
        self.assertEqual([numbered([]), numbered(()), numbered((("c",),))], [[], [], [("c",)]])
        self.assertEqual(numbered((1, 0, 1)), [0, 1, 0])

    def test_far_unknowns(self):
        self.assertEqual(numbered([FAR, ("f", FAR + 1), FAR]), [0, ("f", 1), 0])

    def test_a_new_list_is_returned(self):
        terms = [0, 1]
        found = unchanged(self, numbered, terms)
        found.append(5)
        self.assertEqual((numbered(terms), terms), ([0, 1], [0, 1]))

    def test_other_names_of_unknowns_make_no_difference(self):
        rng = seeded(3)
        for _ in range(200):
            terms = [random_term(rng, 4, range(6)) for _ in range(3)]
            names = rng.sample(range(100), 6)
            self.assertEqual(numbered([plain_put(term, names) for term in terms]), numbered(terms))


class BuiltTest(unittest.TestCase):
    def test_the_whole_term_goes_ahead_of_its_parts(self):
        self.assertEqual(built(("f", 3), [3, ("f", 3)], [0, 1]), 1)
        self.assertEqual(built(("f", 3), [3, ("f", 3)], [0]), ("f", 0))
        self.assertEqual(built(("c",), [("c",)], [0]), 0)

    def test_the_least_index_is_taken(self):
        self.assertEqual(built(4, [4, 5, 4, 4], [2, 3]), 2)
        self.assertEqual(built(("g", 4, 4), [4, 4], [0, 1]), ("g", 0, 0))

    def test_constants_need_no_value(self):
        self.assertEqual(built(("c",), [], []), ("c",))
        self.assertEqual(built(("f", ("c",), ("g", ("d",))), (1,), [0]), ("f", ("c",), ("g", ("d",))))

    def test_there_is_none(self):
        self.assertIsNone(built(0, [], []))
        self.assertIsNone(built(0, [0], []))
        self.assertIsNone(built(("f", ("c",), 1), [0], [0]))
        self.assertIsNone(built(2, [("f", 2), 0, 1], [0, 1, 2]))

    def test_unknowns_are_not_indexes(self):
        self.assertEqual(built(("f", 1), [1, 0], [0, 1]), ("f", 0))

    def test_it_makes_the_term_if_something_does(self):
        rng = seeded(4)
        kinds = set()
        for _ in range(400):
            values = tuple(random_term(rng, 2, range(4)) for _ in range(4))
            term = random_term(rng, 4, range(4))
            keep = sorted(rng.sample(range(4), rng.randrange(5)))
            found = unchanged(self, built, term, values, keep)
            self.assertEqual(found is not None, self.can_be_built(term, values, keep))
            kinds.add(found is None)
            if found is not None:
                self.assertEqual(plain_put(found, values), term)
                self.assertLessEqual(plain_unknowns(found), set(keep))
        self.assertEqual(kinds, {True, False})

    def can_be_built(self, term, values, keep):
        if any(values[at] == term for at in keep):
            return True
        return isinstance(term, tuple) and all(self.can_be_built(part, values, keep) for part in term[1:])

    def test_all_small_cases(self):
        terms = [0, 1, ("c",), ("f", 0), ("f", ("f", 0))]
        for term, one, other in itertools.product(terms, repeat=3):
            found = built(term, [one, other], [0, 1])
            if term == one:
                self.assertEqual(found, 0)
            elif term == other:
                self.assertEqual(found, 1)


class DeepTest(unittest.TestCase):
    def test_terms_deeper_than_calls_go(self):
        deep = nested(20000, 5)
        self.assertEqual([size([deep]), unknowns([deep]), size(numbered([deep]))], [20000, [5], 20000])
        self.assertEqual(built(nested(10, 3), [nested(7, 3)], [0]), nested(3))
        self.assertEqual(size([built(deep, [nested(10, 5)], [0])]), 19990)


if __name__ == "__main__":
    unittest.main()
