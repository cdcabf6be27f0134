import itertools
import unittest

from framemoves.codes import Code
from framemoves.errors import NoPlace, TooMany, Unlike
from framemoves.needs import all_needs, are_alike, needs, parting
from framemoves.runs import answered, head
from framemoves.solving import Equations
from framemoves.worlds import World
from plain import NAMES, WORLDS, plain_parting, plain_put, plain_rounds, random_code, varied
from support import full, nested, outcome_of, random_term, seeded, unchanged

WORLD = World({"ask": (1, {"no": 0, "yes": 1})})
WAYS = (("no", (), 1), ("yes", (0,), 1))
PLAIN = Code(WORLD, 2, 1, [("ask", "ask", (0,), WAYS), ("end", "done", (("g", 0, 1),))])
TWICE = Code(WORLD, 2, 1, [("ask", "ask", (0,), WAYS), ("set", ((0, ("g", 0, 1)),), 2), ("end", "done", (0,))])
GO = WORLDS[2]
SILENT = Code(GO, 1, 1, [("set", ((0, ("f", 0)),), 1), ("set", ((0, ("g", 0, 0)),), 0), ("end", "out", (0,))])


def ends(*rows, variables=2, world=WORLD):
    """A code whose places are ends with these words and terms."""
    return Code(world, variables, variables, [("end", word, terms) for word, terms in rows])


def pairs_of_codes(count, seed):
    """Random pairs of codes, many of them much alike, each with a limit."""
    rng = seeded(seed)
    for _ in range(count):
        variables = rng.randrange(2, 5)
        code = random_code(rng, rng.choice(WORLDS), variables, rng.randrange(variables + 1), rng.randrange(1, 6))
        other = varied(rng, code)
        if rng.random() < 0.3:
            other = random_code(rng, code.world, rng.randrange(2, 4), 2, rng.randrange(1, 6))
        yield rng, code, other, rng.choice([200, 200, 30, 5, 3])


class ExampleTest(unittest.TestCase):
    def test_as_it_stands(self):
        self.assertEqual([needs(PLAIN, 0, TWICE, 0).rows(), needs(PLAIN, 1, TWICE, 2).rows(), needs(PLAIN, 0, TWICE, 1)],
                         [[(2, 0), (3, 1)], [(2, ("g", 0, 1))], None])
        self.assertEqual(parting(PLAIN, (0, (0, 1)), TWICE, (0, (0, 2))), ["no"])


class NeedsTest(unittest.TestCase):
    def test_what_is_seen_is_of_another_kind(self):
        code = Code(WORLDS[1], 2, 2, [("ask", "get", (), (("one", (0,), 2), ("two", (0, 1), 2))),
                                      ("ask", "put", (0, 1), (("done", (), 2),)), ("end", "out", ()), ("end", "bye", ()),
                                      ("end", "out", (0,)), ("end", "out", (0, 1)), ("set", (), 6)])
        told = all_needs(code, code)
        for place, there in itertools.product(range(7), repeat=2):
            self.assertEqual(told[place][there] is None, place != there)
        self.assertEqual([told[at][at].rows() for at in range(7)],
                         [[], [(2, 0), (3, 1)], [], [], [(2, 0)], [(2, 0), (3, 1)], []])

    def test_silent_places(self):
        self.assertEqual([[one is None for one in row] for row in all_needs(SILENT, SILENT)],
                         [[False, False, True], [False, False, True], [True, True, False]])
        self.assertEqual(needs(SILENT, 0, SILENT, 1), Equations(2, []))
        self.assertIs(are_alike(SILENT, (0, (0,)), SILENT, (1, (("c",),))), True)
        self.assertEqual(parting(SILENT, (0, (0,)), SILENT, (2, (0,))), [])

    def test_terms_that_cannot_be_equal(self):
        one = ends(("out", (("f", 0), 1)), ("out", (("c",), 1)), ("out", (0, ("f", 1))))
        other = ends(("out", (("g", 0, 1), 1)), ("out", (("f", ("f", 0)), 0)), ("out", (0, 0)))
        told = all_needs(one, other)
        self.assertEqual([[None if equations is None else equations.rows() for equations in row] for row in told],
                         [[None, [(0, ("f", 1)), (2, 1)], [(1, ("f", 0)), (2, ("f", 0))]],
                          [None, None, [(1, ("c",)), (2, ("c",))]],
                          [[(0, ("g", 2, ("f", 1))), (3, ("f", 1))], [(0, ("f", ("f", ("f", 1)))), (2, ("f", 1))],
                           [(0, ("f", 1)), (2, ("f", 1))]]])

    def test_brought_values_stand_in_no_values(self):
        rows = [("ask", "ask", (0,), (("no", (), 1), ("yes", (1,), 1))), ("end", "done", (0, 1))]
        other = [("ask", "ask", (0,), (("no", (), 1), ("yes", (0,), 1))), ("end", "done", (0, 1))]
        third = [("ask", "ask", (0,), (("no", (), 1), ("yes", (1,), 1))), ("end", "done", (0, ("f", 1)))]
        codes = [Code(WORLD, 2, 2, part) for part in (rows, other, third)]
        self.assertIsNone(needs(codes[0], 0, codes[1], 0))
        self.assertIsNone(needs(codes[0], 0, codes[2], 0))
        self.assertEqual(needs(codes[0], 0, codes[0], 0).rows(), [(2, 0), (3, 1)])
        self.assertEqual(parting(codes[0], (0, (0, 1)), codes[1], (0, (0, 1))), ["yes"])
        self.assertEqual(parting(codes[0], (0, (0, 1)), codes[1], (0, (0, 2))), ["no"])

    def test_two_brought_values_are_two(self):
        world = WORLDS[1]
        rows = [("ask", "get", (), (("one", (0,), 1), ("two", (0, 1), 1))), ("end", "out", (0, 1))]
        swapped = [("ask", "get", (), (("one", (0,), 1), ("two", (1, 0), 1))), ("end", "out", (0, 1))]
        crossed = [("ask", "get", (), (("one", (1,), 1), ("two", (1, 0), 1))), ("end", "out", (1, 0))]
        one, other, third = [Code(world, 2, 2, part) for part in (rows, swapped, crossed)]
        self.assertIsNone(needs(one, 0, other, 0))
        self.assertEqual(needs(one, 0, third, 0).rows(), [(2, 1)])
        self.assertEqual(parting(one, (0, (0, 1)), other, (0, (0, 1))), ["two"])

    def test_operations_with_other_numbers_of_parts(self):
        one, other = ends(("out", (("f", 0),)), ("out", (("f", 0, 1),))), ends(("out", (("f", 0, 1),)), ("out", (("f",),)))
        self.assertEqual(all_needs(one, other), [[None, None], [Equations(4, [(2, 0), (3, 1)]), None]])
        self.assertIs(are_alike(one, (1, (0, 1)), other, (0, (0, 1))), True)
        self.assertEqual(parting(one, (0, (0, 1)), other, (0, (0, 1))), [])

    def test_rounds_go_on_while_anything_changes(self):
        order = tuple((at, (at + 1) % 6) for at in range(6))
        rows = [("ask", "go", (), (("a", (), 1), ("b", (), 0), ("c", (), 0))), ("set", order, 2),
                ("ask", "go", (), (("a", (), 1), ("b", (), 3), ("c", (), 2))), ("end", "out", (0,))]
        code = Code(GO, 6, 6, rows)
        self.assertEqual(needs(code, 0, code, 0).rows(), [(6 + at, at) for at in range(6)])
        values, other = tuple(range(6)), (0, 1, 2, 3, 4, 7)
        self.assertEqual(parting(code, (2, values), code, (2, other)), ["a"] * 5 + ["b"])
        self.assertEqual(parting(code, (1, values), code, (1, other)), ["a"] * 4 + ["b"])
        self.assertEqual(parting(code, (0, values), code, (0, (8,) + other[1:])), ["a"] * 5 + ["b"])
        self.assertIsNone(parting(code, (0, values), code, (0, values)))

    def test_variables_of_both(self):
        one, other = ends(("out", (1,)), variables=3), ends(("out", (0,)), variables=1)
        self.assertEqual([needs(one, 0, other, 0), needs(other, 0, one, 0)],
                         [Equations(4, [(3, 1)]), Equations(4, [(2, 0)])])
        none = ends(("out", (("c",),)), variables=0)
        self.assertEqual([needs(none, 0, none, 0), needs(one, 0, none, 0)],
                         [Equations(0, []), Equations(3, [(1, ("c",))])])

    def test_as_told_a_second_time(self):
        seen = [0, 0]
        for _, code, other, most in pairs_of_codes(300, 50):
            told = outcome_of(plain_rounds, code, other, most)
            seen[isinstance(told, tuple)] += 1
            found = unchanged(self, all_needs, code, other, most=most)
            if isinstance(told, tuple):
                self.assertEqual(found, told)
                continue
            for (place, there), rows in told[-1].items():
                self.assertEqual(None if found[place][there] is None else found[place][there].rows(), rows)
            self.assertEqual(needs(code, 0, other, len(other) - 1, most=most), found[0][-1])
        self.assertGreater(min(seen), 5)


class AlikeTest(unittest.TestCase):
    def test_frames(self):
        kinds = {}
        for rng, code, other, most in pairs_of_codes(300, 51):
            rounds = outcome_of(plain_rounds, code, other, most)
            if isinstance(rounds, tuple):
                self.assertEqual(outcome_of(are_alike, code, code.first(), other, other.first(), most=most), rounds)
                self.assertEqual(outcome_of(parting, code, code.first(), other, other.first(), most=most), rounds)
                continue
            for _ in range(4):
                place, there = rng.randrange(len(code)), rng.randrange(len(other))
                many = code.variables
                values = [random_term(rng, 1, range(2), NAMES) for _ in range(many + other.variables)]
                for unknown, term in rounds[-1][place, there] or [] if rng.random() < 0.8 else []:
                    values[unknown] = plain_put(term, values)
                frames = (place, tuple(values[:many])), (there, tuple(values[many:]))
                found = unchanged(self, parting, code, frames[0], other, frames[1], most=most)
                told = plain_parting(code, frames[0], other, frames[1], 3)
                self.assertTrue(found == told or told is None and len(found) > 3, (found, told))
                self.assertIs(are_alike(code, frames[0], other, frames[1], most=most), found is None)
                kinds[None if found is None else min(len(found), 2)] = True
        self.assertEqual(set(kinds), {None, 0, 1, 2})

    def test_what_parts_is_seen(self):
        for rng, code, other, _ in pairs_of_codes(60, 52):
            frames = [code.first(), (0, other.first()[1])]
            found = outcome_of(parting, code, frames[0], other, frames[1])
            if isinstance(found, list):
                for at, outcome in enumerate(found):
                    self.assertEqual(head(code, frames[0]), head(other, frames[1]))
                    frames = [answered(one, frame, outcome, 50 + 2 * at) for one, frame in zip((code, other), frames)]
                self.assertNotEqual(head(code, frames[0]), head(other, frames[1]))

    def test_brought_values_stand_in_neither_frame(self):
        rows = [("ask", "get", (), (("one", (1,), 1), ("two", (0, 1), 1))), ("end", "out", (1,))]
        other = [("ask", "get", (), (("one", (), 1), ("two", (1, 0), 1))), ("end", "out", (0,))]
        other[0] = ("ask", "get", (), (("one", (1,), 2), ("two", (1, 0), 1)))
        other.append(("end", "out", (2,)))
        one, second = Code(WORLDS[1], 3, 3, rows), Code(WORLDS[1], 3, 3, other)
        third = Code(WORLDS[1], 3, 3, [("ask", "get", (), (("one", (0,), 1), ("two", (0, 1), 2)))] + other[1:])
        for unknown in range(8):
            values = (unknown,) * 3
            self.assertEqual(parting(one, (0, values), second, (0, values)), ["one"])
            self.assertEqual(parting(one, (0, values), third, (0, values)), ["two"])
            self.assertEqual(parting(third, (0, values), one, (0, values)), ["two"])

    def test_values_brought_earlier_and_later_are_different_ones(self):
        first = ("ask", "get", (), (("one", (0,), 3), ("two", (0, 1), 1)))
        last = ("ask", "get", (), (("one", (2,), 3), ("two", (2, 3), 2)))
        codes = [Code(WORLDS[1], 4, 0, [first, last, ("end", "out", (at,)), ("end", "bye", ())]) for at in range(4)]
        for one, other in itertools.permutations(codes, 2):
            self.assertEqual(parting(one, one.first(), other, other.first()), ["two", "two"])

    def test_great_values(self):
        code = Code(GO, 2, 2, [("ask", "go", (), (("a", (), 1), ("b", (), 0), ("c", (), 2))),
                               ("set", ((0, ("g", 0, 0)),), 0), ("end", "out", (0, 1))])
        values, far = (nested(200), 10 ** 39), (nested(200), 10 ** 39 + 1)
        self.assertIsNone(parting(code, (0, values), code, (0, values)))
        self.assertEqual(parting(code, (0, values), code, (0, far)), ["c"])
        self.assertEqual(parting(code, (1, values), code, (0, values)), ["c"])
        term = full(5)
        self.assertIsNone(parting(code, (0, (("g", term, term), 0)), code, (1, (term, 0))))

    def test_a_long_way_to_where_values_differ(self):
        # The values double with each round, far beyond any limit, before they are seen.
        order = ((0, ("g", 0, 0)),) + tuple((at, at + 1) for at in range(1, 23)) + ((23, 23),)
        rows = [("ask", "go", (), (("a", (), 1), ("b", (), 0), ("c", (), 2))), ("set", order, 0), ("end", "out", (0, 1))]
        code = Code(GO, 24, 24, rows)
        values = tuple(range(24))
        self.assertEqual(parting(code, (0, values), code, (0, values[:23] + (50,))), ["a"] * 22 + ["c"])


class ErrorsTest(unittest.TestCase):
    def check(self, error, code, other, place=0, there=0, most=200):
        self.assertEqual(unchanged(self, needs, code, place, other, there, most=most), error)

    def test_unlike_worlds(self):
        far = ends(("out", ()), world=GO)
        for place, there in [(0, 0), (9, 0), (0, -1), (9, 9)]:
            self.check((Unlike, {}), PLAIN, far, place, there, 1)
        frames = (0, (0, 1)), (0, (0, 1))
        self.assertEqual(outcome_of(all_needs, far, PLAIN, most=1), (Unlike, {}))
        for call in (are_alike, parting):
            self.assertEqual(outcome_of(call, far, frames[0], PLAIN, frames[1], most=1), (Unlike, {}))

    def test_equal_worlds_may_be_two(self):
        world = World({"ask": (1, {"yes": 1, "no": 0})})
        other = Code(world, 2, 1, PLAIN.statements())
        self.assertEqual(needs(PLAIN, 0, other, 0).rows(), [(2, 0), (3, 1)])

    def test_codes_with_other_given_variables_can_be_compared(self):
        other = Code(WORLD, 2, 2, PLAIN.statements())
        self.assertEqual(needs(PLAIN, 0, other, 0).rows(), [(2, 0), (3, 1)])

    def test_no_place(self):
        great = ends(("out", (nested(30),)))
        self.check((NoPlace, {"place": 5}), PLAIN, great, 5, 7, 1)
        self.check((NoPlace, {"place": -1}), PLAIN, great, 0, -1, 1)
        self.check((NoPlace, {"place": 10 ** 39}), great, PLAIN, 0, 10 ** 39, 1)

    def test_sets_on_the_way(self):
        rows = [("set", ((0, nested(7)),), 1), ("set", ((0, ("c",)),), 2), ("end", "out", (0,))]
        code = Code(WORLD, 1, 1, rows)
        for place, there in itertools.product(range(3), repeat=2):
            self.check((TooMany, {"limit": 6}), code, code, place, there, 6)
        self.assertEqual(needs(code, 0, code, 1, most=7), Equations(2, []))
        other = ends(("out", (0,)), variables=1)
        for pair in [(code, other), (other, code)]:
            self.assertEqual(outcome_of(all_needs, *pair, most=6), (TooMany, {"limit": 6}))
            self.assertIsInstance(all_needs(*pair, most=7), list)

    def test_sets_of_silent_places_are_not_done(self):
        rows = [("set", ((0, nested(250)),), 0), ("end", "out", (0,)), ("set", ((0, nested(250)),), 0)]
        code = Code(WORLD, 1, 1, rows)
        self.assertEqual(needs(code, 0, code, 2, most=1), Equations(2, []))

    def test_values_are_counted_over_those_at_the_place(self):
        rows = [("set", ((0, nested(100, 0)),), 1), ("set", ((1, nested(101, 1)),), 2), ("end", "out", ())]
        code = Code(WORLD, 2, 2, rows)
        self.check((TooMany, {"limit": 200}), code, code, 1, 2)
        rows[1] = ("set", ((1, nested(100, 1)),), 2)
        self.assertEqual(needs(Code(WORLD, 2, 2, rows), 0, PLAIN, 0), None)
        rows[1] = ("set", ((0, nested(101, 0)),), 2)
        self.check((TooMany, {"limit": 200}), Code(WORLD, 2, 2, rows), PLAIN)
        rows[0] = ("set", ((0, nested(100, 1)),), 1)
        self.check((TooMany, {"limit": 200}), Code(WORLD, 2, 2, rows), PLAIN)
        rows[1] = ("set", ((0, nested(101, 1)),), 2)
        self.assertIsNone(needs(Code(WORLD, 2, 2, rows), 0, PLAIN, 0))

    def test_rows_of_some_two_places(self):
        one, other = ends(("out", (("g", 0, 1),)), ("out", (nested(9),))), ends(("out", (0,)), ("bye", ()))
        for place, there in itertools.product(range(2), repeat=2):
            self.check((TooMany, {"limit": 8}), one, other, place, there, 8)
        self.assertEqual(needs(one, 0, other, 0, most=9).rows(), [(2, ("g", 0, 1))])

    def test_rows_of_a_round_that_is_not_the_last_one(self):
        # Behind one round both places need nine operations, behind the next one nothing does.
        rows = [("ask", "go", (), (("a", (), 2), ("b", (), 0), ("c", (), 0))), ("end", "out", ()), ("end", "out", (nested(9),))]
        last = [("ask", "go", (), (("a", (), 2), ("b", (), 1), ("c", (), 0))), ("end", "out", ()), ("end", "out", (0,))]
        one, other = Code(GO, 1, 1, rows), Code(GO, 1, 1, last)
        self.assertIsNone(needs(one, 0, other, 0, most=9))
        self.check((TooMany, {"limit": 8}), one, other, 0, 0, 8)

    def test_rows_that_double(self):
        code = Code(GO, 1, 1, [("ask", "go", (), (("a", (), 1), ("b", (), 2), ("c", (), 0))),
                               ("set", ((0, ("g", 0, 0)),), 0), ("end", "out", (0,))])
        still = Code(GO, 1, 1, [("ask", "go", (), (("a", (), 1), ("b", (), 2), ("c", (), 0))), ("set", (), 0),
                                ("end", "out", (0,))])
        self.assertIsNone(needs(code, 0, still, 0))
        grow = Code(GO, 2, 2, [("ask", "go", (), (("a", (), 1), ("b", (), 2), ("c", (), 0))),
                               ("set", ((0, 1), (1, ("g", 0, 1))), 0), ("end", "out", (0,))])
        shift = Code(GO, 24, 24, [("ask", "go", (), (("a", (), 1), ("b", (), 2), ("c", (), 0))),
                                  ("set", tuple((at, min(at + 1, 23)) for at in range(24)), 0), ("end", "out", (0,))])
        self.assertEqual(outcome_of(all_needs, grow, shift), (TooMany, {"limit": 200}))


class SameTest(unittest.TestCase):
    def test_a_small_limit_ahead_of_a_greater_one(self):
        one, other = ends(("out", (("g", 0, 1),)), ("out", (nested(9),))), ends(("out", (0,)), ("bye", ()))
        told = all_needs(one, other)
        for most in (1, 8, 9, 8, 200, 3):
            outcome_of(all_needs, one, other, most=most)
            self.assertEqual(all_needs(one, other), told)

    def test_two_codes_by_turns(self):
        told = [all_needs(PLAIN, TWICE), all_needs(TWICE, PLAIN), all_needs(PLAIN, PLAIN)]
        for _ in range(3):
            self.assertEqual([all_needs(PLAIN, TWICE), all_needs(TWICE, PLAIN), all_needs(PLAIN, PLAIN)], told)

    def test_new_lists_are_returned(self):
        found = all_needs(PLAIN, TWICE)
        self.assertEqual(len({id(row) for row in found}), 2)
        found[0].clear()
        found.pop()
        parting(PLAIN, (0, (0, 1)), TWICE, (0, (0, 2))).append("x")
        needs(PLAIN, 0, TWICE, 0).rows().clear()
        self.assertEqual([len(all_needs(PLAIN, TWICE)), len(all_needs(PLAIN, TWICE)[0])], [2, 3])
        self.assertEqual(parting(PLAIN, (0, (0, 1)), TWICE, (0, (0, 2))), ["no"])

    def test_needs_are_equations(self):
        told = needs(PLAIN, 1, TWICE, 2)
        self.assertEqual([told, repr(told), len(told), told.width],
                         [Equations(4, [(2, ("g", 0, 1))]), "Equations(4, [(2, ('g', 0, 1))])", 1, 4])
        self.assertEqual([(0, 1, ("g", 0, 1), 5) in told, (0, 1, 2, 3) in told], [True, False])
        self.assertEqual(told.solved_for((7, 8)), [(2, ("g", 7, 8))])
        self.assertEqual((told & Equations(4, [(0, 1)])).rows(), [(1, 0), (2, ("g", 0, 0))])
        self.assertEqual([told.within(Equations(4, [])), Equations(4, []).within(told)], [True, False])


if __name__ == "__main__":
    unittest.main()
