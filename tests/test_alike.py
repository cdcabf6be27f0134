import unittest

from framemoves.alike import alike, are_rows
from framemoves.codes import Code
from framemoves.errors import TooMany, Unlike
from framemoves.needs import parting
from framemoves.worlds import World
from plain import WORLDS, follows_of, other_rows, plain_are_rows, plain_rounds, random_code, varied
from support import Pleasing, any_values, in_lists, nested, outcome_of, seeded, unchanged

WORLD = World({"ask": (1, {"no": 0, "yes": 1})})
PLAIN = Code(WORLD, 2, 1, [("ask", "ask", (0,), (("no", (), 1), ("yes", (0,), 0))), ("end", "done", (("g", 0, 1),))])
TWICE = Code(WORLD, 2, 1, [("ask", "ask", (0,), (("no", (), 1), ("yes", (0,), 3))), ("set", ((0, ("g", 0, 1)),), 2),
                           ("end", "done", (0,)), ("set", (), 0)])
ROWS = [(0, 0, [(2, 0), (3, 1)]), (0, 3, [(2, 0), (3, 1)]), (1, 1, [(("g", 2, 3), ("g", 0, 1))])]
SPARE = Code(WORLD, 2, 1, PLAIN.statements() + [("end", "bye", ())])


class AlikeTest(unittest.TestCase):
    def test_alike(self):
        told = unchanged(self, alike, PLAIN, TWICE)
        self.assertEqual(told, ("alike", [(0, 0, [(2, 0), (3, 1)]), (0, 3, [(2, 0), (3, 1)]), (1, 1, [(2, 0), (3, 1)])]))
        self.assertEqual(alike(PLAIN, PLAIN), ("alike", [(0, 0, [(2, 0), (3, 1)]), (1, 1, [(2, 0), (3, 1)])]))
        # Places to which nothing leads are not told of.
        self.assertEqual(alike(SPARE, SPARE), alike(PLAIN, PLAIN))

    def test_parted_at_once(self):
        other = Code(WORLD, 2, 1, [("ask", "ask", (("f", 0),), (("no", (), 0), ("yes", (0,), 0)))])
        self.assertEqual(unchanged(self, alike, PLAIN, other), ("parted", []))
        self.assertEqual(alike(PLAIN, Code(WORLD, 2, 1, [("end", "done", ())])), ("parted", []))
        self.assertEqual(alike(PLAIN, Code(WORLD, 2, 1, [("set", (), 0)])), ("parted", []))

    def test_parted_behind_outcomes(self):
        rows = [("ask", "ask", (0,), (("no", (), 1), ("yes", (1,), 0))), ("end", "done", (("g", 0, 1),))]
        self.assertEqual(unchanged(self, alike, PLAIN, Code(WORLD, 2, 1, rows)), ("parted", ["yes"]))
        rows[0] = ("ask", "ask", (0,), (("no", (), 1), ("yes", (0,), 2)))
        rows.append(("set", ((1, 0),), 0))
        self.assertEqual(alike(PLAIN, Code(WORLD, 2, 1, rows)), ("parted", ["yes", "no"]))

    def test_silent_and_without_variables(self):
        ring = Code(WORLD, 1, 1, [("set", ((0, ("f", 0)),), 0)])
        other = Code(WORLD, 2, 1, [("set", (), 1), ("set", (), 1)])
        self.assertEqual(alike(ring, other), ("alike", [(0, 0, [])]))
        none = Code(WORLD, 0, 0, [("end", "out", ())])
        self.assertEqual(alike(none, none), ("alike", [(0, 0, [])]))

    def test_equal_worlds_may_be_two(self):
        world = World({"ask": (1, {"yes": 1, "no": 0})})
        self.assertEqual(alike(PLAIN, Code(world, 2, 1, TWICE.statements())), alike(PLAIN, TWICE))

    def test_as_told_a_second_time(self):
        rng = seeded(52)
        kinds = [0, 0]
        for _ in range(200):
            code = random_code(rng, rng.choice(WORLDS), 3, rng.randrange(4), rng.randrange(1, 5))
            other = varied(rng, code)
            if rng.random() < 0.4:
                other = random_code(rng, code.world, 3, code.given, rng.randrange(1, 5))
            rounds = outcome_of(plain_rounds, code, other)
            told = outcome_of(alike, code, other)
            if isinstance(rounds, tuple):
                self.assertEqual(told, rounds)
                continue
            found = parting(code, code.first(), other, other.first())
            kinds[found is None] += 1
            if found is None:
                self.assertEqual(told, ("alike", [(p, q, rounds[-1][p, q]) for p, q in follows_of(code, other)]))
                self.assertIs(are_rows(code, other, told[1]), True)
                self.assertIs(are_rows(code, other, told[1][::-1]), True)
            else:
                self.assertEqual(told, ("parted", found))
        self.assertGreater(min(kinds), 20)

    def test_new_lists_are_returned(self):
        rows = alike(PLAIN, TWICE)[1]
        lists = [rows] + [pairs for _, _, pairs in rows]
        self.assertEqual(len({id(one) for one in lists}), 4)
        for one in lists:
            one.clear()
        self.assertEqual(len(alike(PLAIN, TWICE)[1][0][2]), 2)
        self.assertEqual([alike(TWICE, PLAIN), alike(PLAIN, TWICE)], [alike(TWICE, PLAIN), alike(PLAIN, TWICE)])


class AreRowsTest(unittest.TestCase):
    def test_other_orders_and_other_pairs_that_say_the_same(self):
        for rows in (ROWS, ROWS[::-1], [(p, q, pairs[::-1]) for p, q, pairs in ROWS],
                     [(p, q, [pair[::-1] for pair in pairs]) for p, q, pairs in ROWS],
                     [(p, q, pairs + pairs + [(("f", 0), ("f", 0))]) for p, q, pairs in ROWS],
                     ROWS[:2] + [(1, 1, [(2, 0), (3, 1)])]):
            self.assertIs(unchanged(self, are_rows, PLAIN, TWICE, rows), True)

    def test_a_pair_out(self):
        for at in range(3):
            for out in range(len(ROWS[at][2])):
                pairs = ROWS[at][2][:out] + ROWS[at][2][out + 1:]
                self.assertIs(are_rows(PLAIN, TWICE, ROWS[:at] + [ROWS[at][:2] + (pairs,)] + ROWS[at + 1:]), False)

    def test_a_pair_more(self):
        # Nothing leads back to the first pair of places, so that it may have pairs that the second one has not.
        self.assertIs(are_rows(PLAIN, TWICE, [(0, 0, ROWS[0][2] + [(1, ("nil",))])] + ROWS[1:]), True)
        self.assertIs(are_rows(PLAIN, TWICE, [ROWS[0], (0, 3, ROWS[1][2] + [(1, ("nil",))]), ROWS[2]]), False)
        one = [(0, 0, ROWS[0][2] + [(1, ("nil",))]), (0, 3, ROWS[1][2] + [(1, ("nil",))]), ROWS[2]]
        self.assertIs(are_rows(PLAIN, TWICE, one), True)
        self.assertIs(are_rows(PLAIN, TWICE, [(p, q, pairs + [(1, ("c",))]) for p, q, pairs in one[:2]] + one[2:]), False)
        self.assertIs(are_rows(PLAIN, TWICE, [(0, 0, ROWS[0][2] + [(0, 1)])] + ROWS[1:]), False)

    def test_a_tuple_out_and_one_more(self):
        for at in range(3):
            self.assertIs(are_rows(PLAIN, TWICE, ROWS[:at] + ROWS[at + 1:]), False)
        self.assertIs(are_rows(PLAIN, TWICE, ROWS + [(1, 2, [(2, ("g", 0, 1))])]), True)
        self.assertIs(are_rows(PLAIN, TWICE, ROWS + [(1, 2, [])]), False)
        self.assertIs(are_rows(PLAIN, TWICE, ROWS + [(1, 3, [])]), False)
        self.assertIs(are_rows(PLAIN, TWICE, ROWS + ROWS[:1]), False)
        self.assertIs(are_rows(PLAIN, TWICE, ROWS + [(0, 0, [(3, 1), (2, 0)])]), False)

    def test_pairs_without_a_solution(self):
        self.assertIs(are_rows(PLAIN, TWICE, ROWS + [(1, 3, [(("c",), ("d",))])]), False)
        self.assertIs(are_rows(PLAIN, TWICE, ROWS[:2] + [(1, 1, [(0, ("f", 0))])]), False)

    def test_brought_values(self):
        ring = Code(WORLD, 2, 2, [("ask", "ask", (0,), (("no", (), 0), ("yes", (1,), 0)))])
        self.assertIs(are_rows(ring, ring, [(0, 0, [(0, 2)])]), True)
        self.assertIs(are_rows(ring, ring, [(0, 0, [(0, 2), (1, 3)])]), True)
        self.assertIs(are_rows(ring, ring, [(0, 0, [(0, 2), (1, 1)])]), True)
        for pair in [(1, ("f", 3)), (1, 0), (1, ("c",)), (0, ("f", 1))]:
            self.assertIs(are_rows(ring, ring, [(0, 0, [(0, 2), pair])]), False)

    def test_codes_that_are_not_alike(self):
        other = Code(WORLD, 2, 1, PLAIN.statements()[:1] + [("end", "done", (("g", 1, 0),))])
        self.assertEqual(alike(PLAIN, other), ("parted", ["no"]))
        for rows in ([(0, 0, [(0, 2)]), (1, 1, [])], [(0, 0, []), (1, 1, [])],
                     [(0, 0, [(0, 2), (1, 3), (0, 1)]), (1, 1, [(0, 1), (2, 3), (0, 2)])]):
            self.assertIs(are_rows(PLAIN, other, rows), False)

    def test_as_told_a_second_time(self):
        rng = seeded(53)
        told = [0, 0]
        for _ in range(250):
            code = random_code(rng, rng.choice(WORLDS), 2, rng.randrange(3), rng.randrange(1, 5), 1)
            other = varied(rng, code)
            rounds = outcome_of(plain_rounds, code, other)
            if isinstance(rounds, tuple):
                continue
            rows = [(p, q, list(rounds[-1][p, q] or [])) for p, q in follows_of(code, other)]
            for _ in range(4):
                rows = other_rows(rng, rows, code, other)
                found = are_rows(code, other, rows)
                self.assertIs(found, plain_are_rows(code, other, rows))
                told[found] += 1
        self.assertGreater(min(told), 100)

    def test_any_value(self):
        for thing in any_values() + [tuple(ROWS), [], [ROWS], {0: ROWS}, in_lists(30), [ROWS[0]] * 5000, ROWS + [None],
                                     ROWS + [()], ROWS + [(1, 2)], ROWS + [[1, 2, []]], ROWS + [(1, 2, [], 0)],
                                     ROWS + [(1, 2, ())], ROWS + [(1, 2, None)], ROWS + [(True, 2, [(2, ("g", 0, 1))])],
                                     ROWS + [(2, 2, [])], ROWS + [(1, 4, [])], ROWS + [(-1, 2, [])],
                                     ROWS + [(Pleasing(), 2, [])], ROWS + [(1, Pleasing(), [])], ROWS + [Pleasing()],
                                     ROWS + [(1, 2, Pleasing())]]:
            self.assertIs(are_rows(PLAIN, TWICE, thing), False, thing)
        for pair in [None, 0, (), (2,), (2, 0, 0), [2, 0], (2, None), (2, 4), (4, 2), (True, 0), (2, ("f", 9)), Pleasing(),
                     (Pleasing(), 0), "ab", (2, ("F",))]:
            thing = ROWS[:2] + [(1, 1, ROWS[2][2] + [pair])]
            self.assertIs(are_rows(PLAIN, TWICE, thing), False, thing)

    def test_great_pairs(self):
        great = nested(9000, 2)
        self.assertIs(are_rows(PLAIN, TWICE, ROWS + [(1, 2, [(great, great), (2, ("g", 0, 1))])]), True)
        self.assertIs(are_rows(PLAIN, TWICE, ROWS + [(1, 2, [(great, nested(9000, 2)), (2, ("g", 0, 3))])]), False)
        many = [(("g", 0, 1), 2)] * 3000
        self.assertIs(are_rows(PLAIN, TWICE, ROWS + [(1, 2, many)]), True)


class ErrorsTest(unittest.TestCase):
    def test_unlike(self):
        great = [("set", ((0, nested(201)),), 1), ("end", "out", ())]
        for other in [Code(WORLDS[2], 2, 1, great), Code(WORLD, 2, 2, great), Code(WORLD, 2, 0, great)]:
            self.assertEqual(unchanged(self, alike, PLAIN, other), (Unlike, {}))
            self.assertEqual(unchanged(self, are_rows, PLAIN, other, ROWS), (Unlike, {}))
            self.assertEqual(outcome_of(are_rows, other, PLAIN, None), (Unlike, {}))

    def test_too_many(self):
        great = Code(WORLD, 2, 1, TWICE.statements() + [("set", ((0, nested(201)),), 0)])
        for pair in [(PLAIN, great), (great, PLAIN)]:
            self.assertEqual(unchanged(self, alike, *pair), (TooMany, {"limit": 200}))
            for thing in (ROWS, [], None):
                self.assertEqual(unchanged(self, are_rows, *pair, thing), (TooMany, {"limit": 200}))
        fair = Code(WORLD, 2, 1, TWICE.statements() + [("set", ((0, nested(200)),), 0)])
        self.assertIs(are_rows(PLAIN, fair, ROWS), True)
        self.assertEqual(outcome_of(alike, PLAIN, fair, most=199), (TooMany, {"limit": 199}))

    def test_rows_may_be_greater_than_a_limit(self):
        one = Code(WORLD, 1, 1, [("end", "out", (nested(150),))])
        self.assertIs(are_rows(one, one, [(0, 0, [(nested(9000, 0), nested(9000, 1)), (0, 1)])]), True)
        two = Code(WORLD, 1, 1, [("end", "out", (nested(3),))])
        self.assertEqual(alike(two, Code(WORLD, 1, 1, [("end", "out", (0,))]), most=3), ("parted", []))
        self.assertEqual(outcome_of(alike, two, Code(WORLD, 1, 1, [("end", "out", (0,))]), most=2), (TooMany, {"limit": 2}))


if __name__ == "__main__":
    unittest.main()
