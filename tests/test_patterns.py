import itertools
import unittest
import unittest.mock

from framemoves.errors import Unlike, Wrong
from framemoves.patterns import Pattern
from support import any_values, full, in_lists, nested, plain_put, random_term, seeded, unchanged

FAR = 10 ** 39 + 7
SMALL = [0, 1, ("c",), ("f", 0), ("f", 1), ("f", ("c",)), ("g", 0, 1), ("g", 1, 1), ("f", 0, 0)]


def comes_of(terms, values, found=None):
    """Whether values come of terms, told a second time."""
    found = {} if found is None else found
    for term, value in zip(terms, values):
        if isinstance(term, int):
            if found.setdefault(term, value) != value:
                return False
        elif not isinstance(value, tuple) or term[0] != value[0] or len(term) != len(value):
            return False
        elif not comes_of(term[1:], value[1:], found):
            return False
    return True


class ExampleTest(unittest.TestCase):
    def test_as_it_stands(self):
        self.assertEqual(repr(Pattern([("f", 4), 4]) | Pattern([("f", ("c",)), ("c",)])), "Pattern((('f', 0), 0))")
        self.assertEqual([(Pattern([0, 0]) | Pattern([0, 1])).terms, (3, 3) in Pattern([0, 1]),
                          (3, 4) in Pattern([0, 0])],
                         [(0, 1), True, False])


class MakingTest(unittest.TestCase):
    def test_terms_are_numbered(self):
        self.assertEqual(Pattern([("g", 5, 2), 2, FAR]).terms, (("g", 0, 1), 1, 2))
        self.assertEqual(Pattern((3,)).terms, (0,))
        self.assertEqual([Pattern([]).terms, Pattern(()).terms], [(), ()])

    def test_wrong(self):
        lists = [[0, True], [0, -1], [None], [0, ("f", -1)], ["f"], (0, "f"), [[0]], [("f", 0, 1, 2, 3)],
                 [("nineninen",)]]
        singles = [None, 0, True, "f", "", {}, {0: 1}, {0}, frozenset([0]), range(2), b"", Pattern([0]), Pattern]
        for thing in lists + singles + [in_lists(30), tuple([0] * 19999 + [None]), [nested(28, "x")]]:
            with self.assertRaises(Wrong) as caught:
                Pattern(thing)
            self.assertEqual(caught.exception.place, 0)

    def test_great_values(self):
        wide = Pattern([0] * 10000 + [1] * 9000)
        self.assertEqual((len(wide), wide.terms[0], wide.terms[-1]), (19000, 0, 1))
        self.assertIn(tuple([("c",)] * 10000 + [5] * 9000), wide)
        self.assertNotIn(tuple([("c",)] * 9999 + [5] * 9001), wide)
        self.assertEqual(Pattern([full(11), nested(29)]).terms, (full(11), nested(29)))

    def test_it_copies_and_tells_the_same_again(self):
        terms = [("f", 3), 3]
        one = unchanged(self, Pattern, terms)
        terms.append(0)
        terms[0] = 0
        self.assertEqual([one.terms, one.terms, len(one)], [(("f", 0), 0), (("f", 0), 0), 2])


class SameTest(unittest.TestCase):
    def test_equal(self):
        self.assertTrue(Pattern([5, 7]) == Pattern((1, 0)))
        self.assertFalse(Pattern([5, 7]) != Pattern((1, 0)))
        self.assertTrue(Pattern([]) == Pattern(()))

    def test_not_equal(self):
        for terms in ([0, 0], [0], [0, 1, 2], [0, ("c",)], []):
            self.assertTrue(Pattern([0, 1]) != Pattern(terms))
            self.assertFalse(Pattern([0, 1]) == Pattern(terms))

    def test_equal_to_nothing_else(self):
        for thing in any_values() + [(0, 1), [0, 1], "Pattern((0, 1))"]:
            self.assertIs(Pattern([0, 1]) == thing, False)
            self.assertIs(Pattern([0, 1]) != thing, True)
        self.assertIs(Pattern([0]) == unittest.mock.ANY, False)

    def test_len_and_repr(self):
        for terms in ([], [0], [4, ("f", 4, ("c",))]):
            one = Pattern(terms)
            self.assertEqual(len(one), len(terms))
            self.assertEqual(repr(one), "Pattern(" + repr(one.terms) + ")")
        self.assertEqual([repr(Pattern([])), repr(Pattern([9]))], ["Pattern(())", "Pattern((0,))"])


class InstancesTest(unittest.TestCase):
    def test_instances(self):
        one = Pattern([("f", 0), 0, ("c",)])
        for values in [(("f", 3), 3, ("c",)), (("f", ("g", 0, 1)), ("g", 0, 1), ("c",)), (("f", FAR), FAR, ("c",))]:
            self.assertIs(values in one, True)
        for values in [(("f", 3), 4, ("c",)), (("f", 3), 3, ("d",)), (3, 3, ("c",)), (("f", 3), 3), (("f", 3), 3, 0),
                       (("f", 3), 3, ("c",), 0), [("f", 3), 3, ("c",)], (("f", 3, 3), 3, ("c",)), (("c",), 3, ("c",))]:
            self.assertIs(values in one, False, values)

    def test_any_value(self):
        for thing in any_values() + [in_lists(30), Pattern([0])]:
            self.assertIs(thing in Pattern([0]), False, thing)
            self.assertIs((thing,) in Pattern([0]), False, thing)
        for thing in [("f", "g"), (True, 0), (0, True), ("f", 0)]:
            self.assertIs(thing in Pattern([0, 1]), False, thing)

    def test_no_terms_at_all(self):
        self.assertIs(() in Pattern([]), True)
        for thing in [[], None, (0,), "", {}]:
            self.assertIs(thing in Pattern([]), False)

    def test_as_told_a_second_time(self):
        for terms in itertools.product(SMALL, repeat=2):
            one = Pattern(terms)
            for values in itertools.product(SMALL, repeat=2):
                self.assertIs(values in one, comes_of(terms, values))

    def test_what_is_put_in_is_an_instance(self):
        rng = seeded(5)
        for _ in range(200):
            terms = [random_term(rng, 4, range(3)) for _ in range(3)]
            values = [random_term(rng, 3, range(5)) for _ in range(3)]
            self.assertIn(tuple(plain_put(term, values) for term in terms), Pattern(terms))


class LeastTest(unittest.TestCase):
    def test_unknowns_of_both_are_different_things(self):
        self.assertEqual((Pattern([0]) | Pattern([0])).terms, (0,))
        self.assertEqual((Pattern([0, 1]) | Pattern([0, 0])).terms, (0, 1))
        self.assertEqual((Pattern([0, ("f", 0)]) | Pattern([0, 0])).terms, (0, 1))
        self.assertEqual((Pattern([("f", 0), 0]) | Pattern([("f", 0), 1])).terms, (("f", 0), 1))

    def test_operations(self):
        self.assertEqual((Pattern([("c",)]) | Pattern([("c",)])).terms, (("c",),))
        self.assertEqual((Pattern([("c",)]) | Pattern([("d",)])).terms, (0,))
        self.assertEqual((Pattern([("f", 0)]) | Pattern([("f", 0, 0)])).terms, (0,))
        self.assertEqual((Pattern([("h", 0, ("c",), 1)]) | Pattern([("h", ("c",), ("d",), 0)])).terms,
                         (("h", 0, 1, 2),))

    def test_the_same_two_terms_become_the_same_unknown(self):
        one = Pattern([("c",), ("f", ("c",)), ("c",), ("d",)]) | Pattern([("d",), ("f", ("d",)), ("e",), ("c",)])
        self.assertEqual(one.terms, (0, ("f", 0), 1, 2))
        deep = nested(25, 0, "g")
        wide = Pattern([deep, deep, ("c",)]) | Pattern([("c",), ("c",), deep])
        self.assertEqual(wide.terms, (0, 0, 1))

    def test_no_terms_at_all(self):
        self.assertEqual(Pattern([]) | Pattern([]), Pattern([]))

    def test_unlike(self):
        for one, other in [([], [0]), ([0], [0, 1]), ([0, 1, 2], [0])]:
            with self.assertRaises(Unlike) as caught:
                Pattern(one) | Pattern(other)
            self.assertEqual(vars(caught.exception), {})

    def test_great_patterns(self):
        one = Pattern([full(12, 0)]) | Pattern([full(12, ("c",))])
        self.assertEqual(one.terms, (full(12, 0),))
        wide = Pattern(range_terms(6000, "c")) | Pattern(range_terms(6000, "d"))
        self.assertEqual(wide.terms, tuple([("f", 0)] * 6000))

    def test_it_is_the_least_of_all(self):
        patterns = [Pattern(terms) for terms in itertools.product(SMALL[:8], repeat=2)]
        patterns = [one for at, one in enumerate(patterns) if one not in patterns[:at]]
        for one, other in itertools.product(patterns, repeat=2):
            both = one | other
            self.assertIn(one.terms, both)
            self.assertIn(other.terms, both)
            for third in patterns:
                if one.terms in third and other.terms in third:
                    self.assertIn(both.terms, third)
            self.assertEqual(both, other | one)

    def test_both_stay_as_they_are(self):
        one, other = Pattern([("f", 0), 0]), Pattern([("f", ("c",)), 1])
        self.assertEqual([one | other, one | other], [Pattern([("f", 0), 1])] * 2)
        self.assertEqual([one.terms, other.terms], [(("f", 0), 0), (("f", ("c",)), 0)])


def range_terms(many, name):
    """So many equal terms, as a list."""
    return [("f", (name,)) for _ in range(many)]


if __name__ == "__main__":
    unittest.main()
