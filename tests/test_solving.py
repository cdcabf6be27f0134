import itertools
import unittest
import unittest.mock

from framemoves.errors import NoSolution, Unlike, Wrong
from framemoves.solving import Equations
from support import (any_values, full, in_lists, nested, plain_put, plain_solve, plain_unknowns, random_term, seeded,
                     unchanged)

FAR = 10 ** 39 + 7
SMALL = [7, ("c",), ("f", 7), ("f", ("c",)), ("g", 7, ("c",)), ("g", 7, 7)]


def random_pairs(rng, many, count, deep=2):
    """Some pairs of terms over unknowns."""
    return [(random_term(rng, deep, range(many)), random_term(rng, deep, range(many))) for _ in range(count)]


def plain_rows(found):
    """The rows of a dict that solves, told a second time."""
    return sorted(found.items(), key=lambda row: row[0])


def doubling(first, many):
    """Pairs by which each unknown from first on is made of the next one twice."""
    return [(at, ("f", at + 1, at + 1)) for at in range(first, first + many)]


class ExampleTest(unittest.TestCase):
    def test_as_it_stands(self):
        some = Equations(4, [(("f", 2), 0), (3, 2), (1, 0)])
        self.assertEqual(repr([some, (("f", 5), ("f", 5), 5, 5) in some]),
                         "[Equations(4, [(0, ('f', 2)), (1, ('f', 2)), (3, 2)]), True]")
        self.assertEqual([some.solved_for((("f", 9), ("f", 9))), some.solved_for((9, 9)),
                          some.solved_for((("f", 8), ("f", 9)))], [[(2, 9), (3, 9)], None, None])
        with self.assertRaises(NoSolution):
            Equations(1, [(0, ("f", 0))])


class WrongTest(unittest.TestCase):
    def check(self, place, *things):
        with self.assertRaises(Wrong) as caught:
            Equations(*things)
        self.assertEqual(caught.exception.place, place)

    def test_many(self):
        for thing in [None, True, False, -1, "1", (1,), [1], b"1", {}, 1j, Equations(1, [])]:
            self.check(0, thing, [])

    def test_pairs(self):
        for thing in any_values() + [((0, 0),), (), [(0,)], [(0, 0, 0)], [[0, 0]], [0], [(0, 1), (0, None)], [(0, 2)],
                                     [(2, 0)], [(0, ("f", ("f", 2)))], [(0, True)], [(False, 0)], [(0, -1)], ["ab"],
                                     {(0, 1): 0}, [("f", 0)], [(0, ("f",)), (("f-",), 0)], Equations(2, []),
                                     in_lists(30), [(0, 1)] * 6000 + [(0, FAR)], [(0, nested(28, 2))]]:
            if thing != []:
                self.check(1, 2, thing)
        self.check(1, 0, [(0, 0)])

    def test_the_first_one_is_told(self):
        self.check(0, None, None)
        self.check(0, -1, [(0, ("f", 0))])
        self.check(1, 1, [(0, ("f", 0)), (0, 1)])
        self.check(1, 1, [(("c",), ("d",)), 0])


class RowsTest(unittest.TestCase):
    def test_without_pairs(self):
        for many in (0, 1, 6, 48, FAR):
            one = Equations(many, [])
            self.assertEqual((one.rows(), len(one), one.width, repr(one)), ([], 0, many, f"Equations({many}, [])"))

    def test_pairs_that_say_nothing(self):
        self.assertEqual(Equations(2, [(0, 0), (("f", 1), ("f", 1)), (("c",), ("c",))]).rows(), [])
        self.assertEqual(Equations(0, [(("c",), ("c",))]).rows(), [])

    def test_the_greater_unknown_has_the_row(self):
        for pairs in itertools.permutations([(0, 1), (2, 1), (3, 2)]):
            self.assertEqual(Equations(5, list(pairs)).rows(), [(1, 0), (2, 0), (3, 0)])
        self.assertEqual(Equations(3, [(1, 2), (0, ("f", 2))]).rows(), [(0, ("f", 1)), (2, 1)])

    def test_operations_stand_for_unknowns(self):
        one = Equations(4, [(3, 0), (("g", 0, 1), ("g", ("f", 2), ("c",)))])
        self.assertEqual(one.rows(), [(0, ("f", 2)), (1, ("c",)), (3, ("f", 2))])

    def test_no_row_has_an_unknown_of_a_row(self):
        one = Equations(4, [(0, ("f", 1)), (1, ("g", 2, 3)), (2, ("c",))])
        self.assertEqual(one.rows(), [(0, ("f", ("g", ("c",), 3))), (1, ("g", ("c",), 3)), (2, ("c",))])

    def test_no_solution(self):
        for pairs in ([(("c",), ("d",))], [(("f", 0), ("f", 0, 1))], [(("f", 0), ("g", 0))], [(0, ("c",)), (0, ("d",))],
                      [(0, ("f", ("g", 1, 0)))], [(0, ("f", 1)), (1, ("f", 0))], [(0, ("f", 1)), (2, ("f", 2))],
                      [(0, 1), (1, 2), (2, ("f", 0))], [(("f", 0), ("f", ("f", 0)))], [(("f", ("c",)), ("c",))],
                      [(0, 1), (("f", 0), ("f", 2)), (1, ("c",)), (2, ("d",))]):
            with self.assertRaises(NoSolution) as caught:
                Equations(3, pairs)
            self.assertEqual(vars(caught.exception), {})

    def test_terms_that_double(self):
        one = Equations(8, doubling(0, 7))
        self.assertEqual(one.rows()[0], (0, full(7, 7)))
        self.assertEqual(len(Equations(61, doubling(0, 60))), 60)
        pairs = doubling(0, 60) + doubling(61, 60) + [(0, 61)]
        self.assertEqual(Equations(122, pairs).rows()[-1], (121, 60))
        with self.assertRaises(NoSolution):
            Equations(122, pairs + [(60, ("c",)), (121, ("d",))])
        with self.assertRaises(NoSolution):
            Equations(61, doubling(0, 60) + [(60, ("f", 0, 0))])

    def test_long_ways(self):
        chain = [(at, ("f", at + 1)) for at in range(4000)]
        with self.assertRaises(NoSolution):
            Equations(4001, chain + [(4000, ("f", 0))])
        self.assertEqual(len(Equations(4001, chain)), 4000)
        self.assertEqual(Equations(6001, [(at + 1, at) for at in range(6000)]).rows()[5999], (6000, 0))

    def test_far_unknowns(self):
        one = Equations(FAR, [(FAR - 1, 5), (("f", FAR - 2), 5)])
        self.assertEqual(one.rows(), [(5, ("f", FAR - 2)), (FAR - 1, ("f", FAR - 2))])

    def test_as_told_a_second_time(self):
        rng = seeded(6)
        kinds = [0, 0]
        for _ in range(1500):
            pairs = random_pairs(rng, 4, rng.randrange(1, 4))
            found = plain_solve(pairs)
            kinds[found is None] += 1
            if found is None:
                with self.assertRaises(NoSolution):
                    Equations(4, pairs)
            else:
                self.assertEqual(unchanged(self, Equations, 4, pairs).rows(), plain_rows(found))
        self.assertGreater(min(kinds), 100)

    def test_rows_say_what_the_pairs_say(self):
        rng = seeded(7)
        for _ in range(300):
            pairs = random_pairs(rng, 4, 2)
            if plain_solve(pairs) is not None:
                one = Equations(4, pairs)
                self.assertEqual(Equations(4, one.rows()), one)
                self.assertEqual(Equations(4, pairs[::-1]), one)
                self.assertEqual(Equations(4, [pair[::-1] for pair in pairs]), one)
                mine = {unknown for unknown, _ in one.rows()}
                for _, term in one.rows():
                    self.assertFalse(mine & plain_unknowns(term))

    def test_copies(self):
        pairs = [(0, ("f", 1))]
        one = Equations(2, pairs)
        pairs.append((1, ("c",)))
        rows = one.rows()
        rows.append(5)
        rows[0] = None
        self.assertEqual([one.rows(), one.rows(), len(one)], [[(0, ("f", 1))], [(0, ("f", 1))], 1])


class SameTest(unittest.TestCase):
    def test_equal(self):
        one, other = Equations(3, [(0, ("f", 1)), (2, 1)]), Equations(3, [(1, 2), (("f", 2), 0), (0, 0)])
        self.assertTrue(one == other)
        self.assertFalse(one != other)

    def test_not_equal(self):
        one = Equations(3, [(0, ("f", 1))])
        for other in [Equations(4, [(0, ("f", 1))]), Equations(3, []), Equations(3, [(0, ("f", 2))]),
                      Equations(3, [(0, ("g", 1))]), Equations(3, [(2, ("f", 1))]),
                      Equations(3, [(0, ("f", 1)), (2, 1)])]:
            self.assertTrue(one != other)
            self.assertFalse(one == other)
            self.assertTrue(other != one)

    def test_equal_to_nothing_else(self):
        one = Equations(1, [(0, ("c",))])
        for thing in any_values() + [[(0, ("c",))], repr(one), 1]:
            self.assertIs(one == thing, False)
            self.assertIs(one != thing, True)
        self.assertIs(one == unittest.mock.ANY, False)

    def test_equal_terms_of_equal_unknowns(self):
        one = Equations(4, [(0, ("f", 2)), (1, ("f", 3)), (2, 3)])
        self.assertTrue(one == Equations(4, [(0, 1), (2, 3), (1, ("f", 3))]))

    def test_terms_that_double(self):
        one = Equations(61, doubling(0, 60))
        self.assertTrue(one == Equations(61, doubling(0, 60)[::-1]))
        self.assertFalse(one == Equations(61, doubling(0, 59)))


class SatisfiedTest(unittest.TestCase):
    def test_values(self):
        one = Equations(3, [(0, ("f", 1)), (2, 1)])
        for values in [(("f", 3), 3, 3), (("f", ("c",)), ("c",), ("c",)), (("f", FAR), FAR, FAR), (("f", 0), 0, 0)]:
            self.assertIs(values in one, True)
        for values in [(("f", 3), 3, 4), (("f", 3), 4, 3), (("g", 3), 3, 3), (3, 3, 3), (("f", 3), 3),
                       (("f", 3, 3), 3, 3),
                       (("f", 3), 3, 3, 3), [("f", 3), 3, 3], ()]:
            self.assertIs(values in one, False)

    def test_any_value(self):
        one = Equations(1, [])
        for thing in any_values() + [in_lists(30), one]:
            self.assertIs(thing in one, False, thing)
            self.assertIs((thing,) in one, False, thing)
        self.assertIs((0,) in one, True)
        self.assertIs(() in Equations(0, []), True)
        self.assertIs([] in Equations(0, []), False)
        self.assertIs((True, 1) in Equations(2, [(0, 1)]), False)
        self.assertIs((1, 1) in Equations(2, [(0, 1)]), True)

    def test_unknowns_of_values_are_things(self):
        one = Equations(2, [(0, ("f", 1))])
        self.assertIs((0, 1) in one, False)
        self.assertIs((("f", 0), 0) in one, True)

    def test_as_told_a_second_time(self):
        rng = seeded(8)
        holds = [0, 0]
        for _ in range(300):
            pairs = random_pairs(rng, 3, rng.randrange(3), 1)
            if plain_solve(pairs) is None:
                continue
            one = Equations(3, pairs)
            for values in itertools.product(SMALL, repeat=3):
                told = all(plain_put(first, values) == plain_put(second, values) for first, second in pairs)
                self.assertIs(values in one, told)
                holds[told] += 1
        self.assertGreater(min(holds), 1000)

    def test_great_values(self):
        one = Equations(2, [(0, ("f", 1, 1))])
        self.assertIs((full(12), full(11)) in one, True)
        self.assertIs((full(12), full(10)) in one, False)
        many = 15000
        self.assertIs(tuple([5] * many) in Equations(many, [(0, many - 1)]), True)
        self.assertIs((0,) * 61 in Equations(61, doubling(0, 60)), False)


class BothTest(unittest.TestCase):
    def test_both(self):
        one, other = Equations(3, [(0, ("f", 1))]), Equations(3, [(0, ("f", 2))])
        self.assertEqual((one & other).rows(), [(0, ("f", 1)), (2, 1)])
        self.assertEqual(repr(one & Equations(3, [(1, ("c",))])), "Equations(3, [(0, ('f', ('c',))), (1, ('c',))])")
        self.assertEqual((one & one, (one & other).width), (one, 3))
        self.assertEqual(Equations(0, []) & Equations(0, []), Equations(0, []))

    def test_errors(self):
        one = Equations(2, [(0, ("c",))])
        with self.assertRaises(NoSolution):
            one & Equations(2, [(0, ("d",))])
        with self.assertRaises(NoSolution):
            Equations(2, [(0, ("f", 1))]) & Equations(2, [(1, ("f", 0))])
        with self.assertRaises(Unlike):
            one & Equations(3, [(0, ("d",))])
        with self.assertRaises(Unlike):
            Equations(0, []) & Equations(1, [])

    def test_as_told_a_second_time(self):
        rng = seeded(9)
        for _ in range(600):
            pairs, more = random_pairs(rng, 4, 2), random_pairs(rng, 4, 1)
            if plain_solve(pairs) is None or plain_solve(more) is None:
                continue
            one, other = Equations(4, pairs), Equations(4, more)
            rows, ends = one.rows(), other.rows()
            found = plain_solve(pairs + more)
            if found is None:
                with self.assertRaises(NoSolution):
                    one & other
            else:
                both = one & other
                self.assertEqual(both.rows(), plain_rows(found))
                self.assertEqual((len(both), both), (len(found), Equations(4, pairs + more)))
                self.assertTrue(both.within(one) and both.within(other))
            self.assertEqual((one.rows(), other.rows()), (rows, ends))

    def test_terms_that_double(self):
        one, other = Equations(48, []), Equations(48, [])
        for pair in doubling(0, 47)[::2]:
            one = one & Equations(48, [pair])
        for pair in doubling(0, 47)[1::2]:
            other = other & Equations(48, [pair])
        both = one & other
        self.assertEqual((len(one), len(other), len(both)), (24, 23, 47))
        self.assertTrue(both == other & one and both & both == both)
        self.assertEqual([both.within(one), one.within(both)], [True, False])
        self.assertEqual(both.solved_for(()), [])
        self.assertIsNone(both.solved_for((("c",),)))


class WithinTest(unittest.TestCase):
    def test_within(self):
        one = Equations(3, [(0, ("f", 1)), (2, 1)])
        for pairs in ([], [(2, 1)], [(0, ("f", 2))], [(("g", 0, 2), ("g", ("f", 1), 1))], one.rows()):
            self.assertIs(one.within(Equations(3, pairs)), True)
        for pairs in ([(0, 1)], [(0, ("c",))], [(1, ("c",))], [(0, ("g", 1))], [(1, ("f", 0))],
                      one.rows() + [(1, ("c",))]):
            self.assertIs(one.within(Equations(3, pairs)), False)
        self.assertIs(Equations(0, []).within(Equations(0, [])), True)

    def test_unlike(self):
        for many in (0, 2, 4):
            with self.assertRaises(Unlike):
                Equations(3, []).within(Equations(many, []))

    def test_as_told_a_second_time(self):
        rng = seeded(10)
        told = [0, 0]
        for _ in range(2000):
            pairs, more = random_pairs(rng, 3, 2), random_pairs(rng, 3, 1, 1)
            if plain_solve(pairs) is None or plain_solve(more) is None:
                continue
            one, other = Equations(3, pairs), Equations(3, more)
            values = {at: at for at in range(3)} | plain_solve(pairs)
            holds = all(plain_put(first, values) == plain_put(second, values) for first, second in more)
            self.assertIs(one.within(other), holds)
            told[holds] += 1
        self.assertGreater(min(told), 20)


class SolvedForTest(unittest.TestCase):
    def test_without_values(self):
        one = Equations(4, [(0, ("f", 1)), (2, ("c",)), (3, ("f", ("c",)))])
        self.assertEqual(one.solved_for(()), [(2, ("c",)), (3, ("f", ("c",)))])
        self.assertEqual(Equations(3, []).solved_for(()), [])

    def test_values_with_unknowns_of_their_own(self):
        one = Equations(3, [(0, ("f", 1)), (2, 1)])
        self.assertEqual(one.solved_for((("f", 2),)), [(1, 2), (2, 2)])
        self.assertEqual(one.solved_for((("f", 0),)), [(1, 0), (2, 0)])
        self.assertEqual(one.solved_for((("f", ("g", 1, FAR)),)), [(1, ("g", 1, FAR)), (2, ("g", 1, FAR))])
        self.assertIsNone(one.solved_for((0,)))
        self.assertIsNone(one.solved_for((1,)))

    def test_what_stands_in_no_row_is_never_told(self):
        one = Equations(5, [(3, ("g", 0, 1)), (4, ("g", 0, 2))])
        self.assertEqual(one.solved_for((7, 8)), [(3, ("g", 7, 8))])
        self.assertEqual(one.solved_for((7, 8, ("c",))), [(3, ("g", 7, 8)), (4, ("g", 7, ("c",)))])

    def test_values_of_all_unknowns(self):
        one = Equations(2, [(0, ("f", 1))])
        self.assertEqual(one.solved_for((("f", 1), 1)), [])
        self.assertIsNone(one.solved_for((("f", 1), 0)))
        self.assertEqual(Equations(0, []).solved_for(()), [])

    def test_different_unknowns_are_different_things(self):
        one = Equations(3, [(0, 1)])
        self.assertEqual(one.solved_for((4, 4)), [])
        self.assertIsNone(one.solved_for((4, 5)))
        self.assertIsNone(one.solved_for((4, ("c",))))
        self.assertEqual(one.solved_for((4,)), [(1, 4)])
        self.assertEqual(one.solved_for((1,)), [(1, 1)])

    def test_as_told_a_second_time(self):
        rng = seeded(11)
        kinds = [0, 0]
        for _ in range(1500):
            pairs = random_pairs(rng, 4, 2)
            if plain_solve(pairs) is None:
                continue
            one = Equations(4, pairs)
            things = ["0", "1", ("c",), ("f", "0"), ("f", "1"), ("g", "1", "0")]
            values = [rng.choice(things) for _ in range(rng.randrange(4))]
            found = plain_solve(pairs + list(enumerate(values)))
            told = unchanged(self, one.solved_for, tuple(as_unknowns(value) for value in values))
            kinds[found is None] += 1
            if found is None:
                self.assertIsNone(told)
            else:
                rows = [row for row in plain_rows(found) if row[0] >= len(values) and not flexible(row[1])]
                self.assertEqual(told, [(unknown, as_unknowns(term)) for unknown, term in rows])
        self.assertGreater(min(kinds), 100)

    def test_a_new_list_is_returned(self):
        one = Equations(2, [(0, 1)])
        one.solved_for((3,)).append(5)
        self.assertEqual(one.solved_for((3,)), [(1, 3)])


def as_unknowns(term):
    """The term with fixed things, which are strings, as unknowns."""
    if isinstance(term, tuple):
        return term[:1] + tuple(as_unknowns(part) for part in term[1:])
    return int(term)


def flexible(term):
    """Whether an unknown that is no fixed thing is in the term."""
    if isinstance(term, tuple):
        return any(flexible(part) for part in term[1:])
    return isinstance(term, int)


if __name__ == "__main__":
    unittest.main()
