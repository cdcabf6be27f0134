import unittest

from framemoves.alike import alike
from framemoves.codes import Code
from framemoves.errors import NoPlace, TooMany, Unfit
from framemoves.moves import is_right
from framemoves.patterns import Pattern
from framemoves.recipes import Recipe
from framemoves.rewriting import same_once, unrolled, without_dead
from plain import WORLDS, plain_facts, plain_rounds, random_code
from support import nested, outcome_of, plain_put, plain_unknowns, seeded, unchanged

GO = WORLDS[2]
GET = WORLDS[1]
NIL = ("nil",)


def ways(*tos):
    return tuple((outcome, (), to) for outcome, to in zip("abc", tos))


def ask(*tos):
    return ("ask", "go", (), ways(*tos))


def itself(code):
    """The moves of each place to itself, by which each variable is kept."""
    return [(at, at, Recipe.keeping(code.variables)) for at in range(len(code))]


class DeadTest(unittest.TestCase):
    def check(self, code, statements):
        """That these are the statements without dead changes."""
        new, there, back = without_dead(code)
        self.assertEqual(new, Code(code.world, code.variables, code.given, statements))
        self.assertEqual([there, back], [itself(code), itself(code)])

    def test_dead_and_living_ones(self):
        rows = [("set", ((0, 1), (1, 0), (2, ("f", 2))), 1), ("end", "out", (0,))]
        self.check(Code(GO, 3, 2, rows), [("set", ((0, 1),), 1), rows[1]])
        self.check(Code(GO, 3, 2, rows[:1] + [("end", "out", (("g", 1, 2),))]), [("set", ((1, 0), (2, ("f", 2))), 1), ("end", "out", (("g", 1, 2),))])

    def test_sets_left_without_changes(self):
        rows = [("set", ((0, 1),), 1), ("set", ((1, ("c",)),), 2), ("end", "out", ())]
        self.check(Code(GO, 2, 2, rows), [("set", (), 1), ("set", (), 2), rows[2]])

    def test_what_is_set_again_is_dead(self):
        rows = [("set", ((0, ("f", 0)),), 1), ("set", ((0, 1),), 2), ("end", "out", (0,))]
        self.check(Code(GO, 2, 2, rows), [("set", (), 1)] + rows[1:])

    def test_dead_round_by_round(self):
        # The variable 1 is seen only behind many acts; 2 goes into itself alone.
        many = 8
        rows = [("set", ((0, 1), (1, ("f", 1)), (2, ("g", 1, 2))), 1)] + [ask(at + 2, at + 2, 0) for at in range(many)] + [("end", "out", (1,))]
        self.check(Code(GO, 3, 3, rows), [("set", ((1, ("f", 1)),), 1)] + rows[1:])
        rows = [("set", ((0, ("f", 1)), (1, ("g", 0, 2)), (2, 0)), 1), ask(0, 0, 2), ("end", "out", ())]
        self.check(Code(GO, 3, 3, rows), [("set", (), 1)] + rows[1:])
        rows = [("set", ((0, ("f", 1)), (1, ("g", 0, 2)), (2, 0)), 1), ask(0, 0, 2), ("end", "out", (0,))]
        self.check(Code(GO, 3, 3, rows), rows)

    def test_at_silent_places(self):
        self.check(Code(GO, 1, 1, [("set", ((0, ("f", 0)),), 0)]), [("set", (), 0)])

    def test_a_variable_whose_value_is_always_seen_as_another_one(self):
        # Only what is seen counts, not whether the values differ.
        rows = [ask(1, 1, 1), ("set", ((0, 0),), 2), ("end", "out", (0,))]
        self.check(Code(GO, 1, 1, rows), rows)

    def test_without_variables(self):
        self.check(Code(GO, 0, 0, [("set", (), 1), ask(0, 0, 1)]), [("set", (), 1), ask(0, 0, 1)])

    def test_limits(self):
        code = Code(GO, 2, 2, [("set", ((0, nested(5)), (1, 0)), 1), ("end", "out", (0, nested(3, 1)))])
        self.assertEqual(outcome_of(without_dead, code, most=4), (TooMany, {"limit": 4}))
        self.assertEqual(without_dead(code, most=5), without_dead(code))
        # The needs of any two places count.
        code = Code(GO, 2, 2, [("end", "out", (0,)), ("set", ((0, ("f", 0)),), 0), ("end", "out", (nested(4),))])
        self.assertEqual(outcome_of(without_dead, code, most=3), (TooMany, {"limit": 3}))
        self.assertEqual(unchanged(self, without_dead, code, most=4)[0], code)


class OnceTest(unittest.TestCase):
    def check(self, code, statements):
        new, there, back = same_once(code)
        self.assertEqual(new, Code(code.world, code.variables, code.given, statements))
        self.assertEqual([there, back], [itself(code), itself(code)])

    def test_terms_that_a_variable_has(self):
        rows = [("set", ((1, ("f", 0)),), 1), ("set", ((2, ("f", 0)), (3, ("f", 1))), 2), ("end", "out", (("f", 0), ("f", ("f", 0))))]
        self.check(Code(GO, 4, 1, rows), [rows[0], ("set", ((2, 1), (3, ("f", 1))), 2), ("end", "out", (1, 3))])

    def test_the_least_variable(self):
        rows = [("set", ((3, ("f", 0)), (2, ("f", 0))), 1), ("end", "out", (("f", 0), 3))]
        self.check(Code(GO, 4, 1, rows), [rows[0], ("end", "out", (2, 3))])

    def test_constants(self):
        # Behind the first frame each variable that is not given has the value nil.
        rows = [("set", ((0, NIL), (2, ("f", NIL)), (1, ("c",))), 1), ("end", "out", (NIL, ("c",)))]
        self.check(Code(GO, 3, 1, rows), [("set", ((0, 1), (1, ("c",)), (2, ("f", NIL))), 1), ("end", "out", (0, 1))])

    def test_only_whole_terms(self):
        rows = [("set", ((1, ("f", 0)),), 1), ("end", "out", (("g", ("f", 0), 0), ("f", 0)))]
        self.check(Code(GO, 2, 1, rows), [rows[0], ("end", "out", (("g", ("f", 0), 0), 1))])

    def test_unknowns_stay(self):
        rows = [("set", ((1, 0),), 1), ("end", "out", (1, 0))]
        self.check(Code(GO, 2, 1, rows), rows)

    def test_asks(self):
        rows = [("set", ((1, ("f", 0)),), 1), ("ask", "put", (("f", 0), ("f", 1)), (("done", (), 0),))]
        self.check(Code(GET, 2, 1, rows), [rows[0], ("ask", "put", (1, ("f", 1)), (("done", (), 0),))])

    def test_only_what_is_so_on_all_ways(self):
        rows = [ask(1, 2, 2), ("set", ((1, ("f", 0)),), 3), ("set", ((1, ("f", 0)), (2, 0)), 3), ("end", "out", (("f", 0),))]
        self.check(Code(GO, 3, 1, rows), rows[:3] + [("end", "out", (1,))])
        rows = [ask(1, 2, 2), ("set", ((1, ("f", 0)),), 3), ("set", ((2, ("f", 0)),), 3), ("end", "out", (("f", 0),))]
        self.check(Code(GO, 3, 1, rows), rows)

    def test_places_that_are_not_reached(self):
        rows = [("end", "out", (NIL,)), ("end", "out", (NIL,)), ("set", ((0, NIL),), 1)]
        self.check(Code(GO, 1, 0, rows), [("end", "out", (0,))] + rows[1:])

    def test_limits(self):
        code = Code(GO, 1, 1, [("set", ((0, nested(7)),), 1), ("end", "out", (nested(150),))])
        self.assertEqual(outcome_of(same_once, code, most=6), (TooMany, {"limit": 6}))
        self.assertEqual(same_once(code, most=7), same_once(code))


class UnrolledTest(unittest.TestCase):
    def check(self, code, place, statements, second):
        """That these are the statements behind unrolling, second being the pairs of places and second copies."""
        new, there, back = unrolled(code, place)
        self.assertEqual(new, Code(code.world, code.variables, code.given, statements))
        keep = Recipe.keeping(code.variables)
        self.assertEqual(there, sorted(itself(code) + [(at, to, keep) for at, to in second], key=lambda row: row[:2]))
        self.assertEqual(back, itself(code) + [(to, at, keep) for at, to in second])
        self.assertEqual([row[:2] for row in back], sorted(row[:2] for row in back))

    def test_one_place(self):
        self.check(Code(GO, 1, 1, [("set", ((0, ("f", 0)),), 0)]), 0, [("set", ((0, ("f", 0)),), 1), ("set", ((0, ("f", 0)),), 0)], [(0, 1)])
        rows = [("set", (), 1), ask(1, 2, 1), ("end", "out", (0,))]
        self.check(Code(GO, 1, 1, rows), 1, [rows[0], ask(3, 2, 3), rows[2], ask(1, 2, 1)], [(1, 3)])

    def test_several_places(self):
        rows = [("set", (), 2), ("set", ((0, 1),), 2), ask(3, 4, 2), ("set", ((1, 0),), 1), ("end", "out", (0, 1))]
        self.check(Code(GO, 2, 2, rows), 2, [("set", (), 2), ("set", ((0, 1),), 6), ask(3, 4, 6), ("set", ((1, 0),), 1), rows[4],
                                             ("set", ((0, 1),), 2), ask(7, 4, 2), ("set", ((1, 0),), 5)], [(1, 5), (2, 6), (3, 7)])
        self.check(Code(GO, 2, 2, rows), 3, [("set", (), 2), ("set", ((0, 1),), 2), ask(7, 4, 2), ("set", ((1, 0),), 1), rows[4],
                                             ("set", ((0, 1),), 6), ask(3, 4, 6), ("set", ((1, 0),), 5)], [(1, 5), (2, 6), (3, 7)])

    def test_one_loop_within_another(self):
        # The loop of 1 has 0, too, since ways lead from 1 there and back.
        rows = [ask(1, 3, 3), ask(1, 2, 0), ("set", (), 0), ("end", "out", ())]
        self.check(Code(GO, 0, 0, rows), 1, [ask(5, 3, 3), ask(5, 2, 0), ("set", (), 0), rows[3], ask(1, 3, 3), ask(1, 6, 4), ("set", (), 4)],
                   [(0, 4), (1, 5), (2, 6)])

    def test_ways_into_the_loop_stay(self):
        rows = [ask(1, 2, 1), ask(2, 2, 2), ask(1, 1, 3), ("set", (), 0)]
        self.check(Code(GO, 0, 0, rows[:3] + [("end", "bye", ())]), 1, [ask(1, 2, 1), ask(2, 2, 2), ask(4, 4, 3), ("end", "bye", ()),
                                                                      ask(5, 5, 5), ask(1, 1, 3)], [(1, 4), (2, 5)])

    def test_places_that_are_not_reached(self):
        rows = [("end", "out", ()), ("set", (), 2), ("set", (), 1)]
        self.check(Code(GO, 0, 0, rows), 2, rows[:1] + [("set", (), 4), ("set", (), 1), ("set", (), 2), ("set", (), 3)], [(1, 3), (2, 4)])

    def test_errors(self):
        code = Code(GO, 0, 0, [("set", (), 1), ask(1, 2, 1), ("end", "out", ())])
        for place, error in [(0, (Unfit, {})), (2, (Unfit, {})), (3, (NoPlace, {"place": 3})), (-1, (NoPlace, {"place": -1}))]:
            self.assertEqual(unchanged(self, unrolled, code, place), error)


class SecondTest(unittest.TestCase):
    def codes(self, number, count):
        rng = seeded(number)
        for _ in range(count):
            yield rng, random_code(rng, rng.choice(WORLDS), rng.randrange(2, 4), rng.randrange(3), rng.randrange(1, 5))

    def check_right(self, code, new, there, back):
        """That all moves are right, if values are small enough."""
        self.assertIn(outcome_of(alike, code, new)[0], ("alike", TooMany))
        for at, to, recipe in there:
            self.assertIn(outcome_of(is_right, code, at, new, to, recipe), (True, (TooMany, {"limit": 200})))
        for at, to, recipe in back:
            self.assertIn(outcome_of(is_right, new, at, code, to, recipe), (True, (TooMany, {"limit": 200})))

    def test_without_dead(self):
        changed = 0
        for rng, code in self.codes(90, 200):
            most = rng.choice([200, 5])
            rounds = outcome_of(plain_rounds, code, code, most)
            told = outcome_of(without_dead, code, most=most)
            if isinstance(rounds, tuple):
                self.assertEqual(told, rounds)
                continue
            rows = [self.without_dead(code, statement, rounds[-1]) for statement in code.statements()]
            self.assertEqual(told, (Code(code.world, code.variables, code.given, rows), itself(code), itself(code)))
            self.check_right(code, *told)
            changed += told[0] != code
        self.assertGreater(changed, 50)

    def without_dead(self, code, statement, needs):
        if statement[0] != "set":
            return statement
        used = {unknown for row in needs[statement[2], statement[2]] for unknown in plain_unknowns(row[1]) | {row[0]}}
        kept = [change for change in statement[1] if change[0] in used or change[0] + code.variables in used]
        return ("set", tuple(kept), statement[2])

    def test_same_once(self):
        changed = 0
        for rng, code in self.codes(901, 300):
            most = rng.choice([200, 5])
            facts = outcome_of(plain_facts, code, most)
            told = outcome_of(same_once, code, most=most)
            if not isinstance(facts[0], list):
                self.assertEqual(told, facts)
                continue
            rows = [self.same_once(statement, pattern) for statement, pattern in zip(code.statements(), facts[1])]
            self.assertEqual(told, (Code(code.world, code.variables, code.given, rows), itself(code), itself(code)))
            self.check_right(code, *told)
            changed += told[0] != code
        self.assertGreater(changed, 25)

    def same_once(self, statement, pattern):
        if pattern is None:
            return statement
        values = Pattern(pattern.terms).terms

        def once(term):
            made = plain_put(term, values)
            return values.index(made) if isinstance(term, tuple) and made in values else term
        if statement[0] == "set":
            return ("set", tuple((at, once(term)) for at, term in statement[1]), statement[2])
        return statement[:2] + (tuple(once(term) for term in statement[2]),) + statement[3:]

    def test_unrolled(self):
        count = 0
        for _, code in self.codes(902, 150):
            for place in range(len(code)):
                told = outcome_of(unrolled, code, place)
                if told != (Unfit, {}):
                    count += 1
                    self.check_right(code, *told)
        self.assertGreater(count, 100)

    def test_new_lists(self):
        code = Code(GO, 1, 1, [ask(0, 0, 0)])
        for call in (without_dead, same_once, lambda code: unrolled(code, 0)):
            told = call(code)
            self.assertIsNot(told[1], told[2])
            told[1].clear()
            told[2].clear()
            self.assertEqual(unchanged(self, call, code)[1][:1], [(0, 0, Recipe.keeping(1))])


if __name__ == "__main__":
    unittest.main()
