import functools
import itertools
import unittest

from framemoves.codes import Code
from framemoves.errors import NoPlace, TooMany
from framemoves.facts import are_facts, fact, facts, kept_roads, shows_fact
from framemoves.patterns import Pattern
from framemoves.roads import road_frame
from framemoves.worlds import World
from plain import WORLDS, plain_facts, plain_put, random_code, road_values
from support import Pleasing, any_values, in_lists, nested, outcome_of, random_term, seeded, unchanged

WORLD = World({"ask": (1, {"no": 0, "yes": 1})})
GROW = Code(WORLD, 2, 1, [("ask", "ask", (0,), (("no", (), 2), ("yes", (0,), 1))), ("set", ((1, ("f", 0, 1)),), 0),
                          ("end", "done", (1,))])
# Place 2 stands apart, so that no road leads to it.
APART = Code(WORLD, 1, 1, [("set", (), 1), ("end", "done", (0,)), ("set", ((0, ("c",)),), 1)])
# The values of place 0 lose an operation of their pattern with each round.
FULL = ("h", ("c",), ("c",), ("c",))
ROUND = Code(WORLD, 4, 0, [("set", ((0, FULL), (1, 0), (2, 1), (3, 2)), 0)])


def codes():
    """Random codes, each with a limit."""
    rng = seeded(41)
    found = []
    for _ in range(250):
        variables = rng.randrange(2, 5)
        world = rng.choice(WORLDS)
        code = random_code(rng, world, variables, rng.randrange(variables + 1), rng.randrange(1, 6))
        found.append((code, rng.choice([200, 200, 30, 5, 3])))
    return found


class ExampleTest(unittest.TestCase):
    def test_as_it_stands(self):
        self.assertEqual([kept_roads(GROW, 0), fact(GROW, 0).terms], [[((), 0), (("yes",), 1)], (0, 1)])
        self.assertEqual([kept_roads(GROW, 1), fact(GROW, 1).terms],
                         [[(("yes",), 0), (("yes", "yes"), 0)], (0, 1)])
        self.assertEqual(facts(GROW), [Pattern((0, 1)), Pattern((0, 1)), Pattern((0, 1))])
        self.assertEqual(kept_roads(GROW, 2), [(("no",), 0), (("yes", "no"), 0)])


class FactsTest(unittest.TestCase):
    def test_places_that_no_road_leads_to(self):
        self.assertEqual([facts(APART), fact(APART, 2), kept_roads(APART, 2)],
                         [[Pattern((0,)), Pattern((0,)), None], None, []])

    def test_rings_of_sets(self):
        turn = Code(WORLD, 2, 2, [("set", ((0, 1), (1, 0)), 0)])
        self.assertEqual([facts(turn), kept_roads(turn, 0)], [[Pattern((0, 1))], [((), 0)]])
        ring = Code(WORLD, 1, 1, [("set", ((0, ("c",)),), 1), ("set", ((0, ("d",)),), 0)])
        self.assertEqual([facts(ring), kept_roads(ring, 0), kept_roads(ring, 1)],
                         [[Pattern((0,)), Pattern((("c",),))], [((), 0)], [((), 1)]])

    def test_patterns_that_get_wider_round_by_round(self):
        self.assertEqual(kept_roads(ROUND, 0), [((), steps) for steps in range(5)])
        self.assertEqual(facts(ROUND), [Pattern((0, 1, 2, 3))])
        rows = [("set", ((0, ("f", 0)),), 0)]
        self.assertEqual(kept_roads(Code(WORLD, 1, 0, rows), 0), [((), 0), ((), 1)])
        rows = [("set", ((0, nested(6, ("c",))), (1, nested(6, ("d",)))), 1),
                ("ask", "ask", (0,), (("no", (), 1), ("yes", (1,), 2))), ("set", ((0, nested(3, ("c",))),), 1)]
        self.assertEqual(fact(Code(WORLD, 2, 2, rows), 1), Pattern((nested(3, 0), 1)))

    def test_equal_values_stay_equal(self):
        rows = [("ask", "ask", (0,), (("no", (), 1), ("yes", (0,), 2))), ("set", ((0, ("f", 1)), (2, ("f", 1))), 3),
                ("set", ((2, 0),), 3), ("end", "done", ())]
        self.assertEqual(fact(Code(WORLD, 3, 2, rows), 3), Pattern((0, 1, 0)))

    def test_operations_with_other_numbers_of_parts(self):
        rows = [("ask", "ask", (0,), (("no", (), 1), ("yes", (), 2))), ("set", ((0, ("f", 1)), (1, ("g", 1, ("c",)))), 3),
                ("set", ((0, ("f", 1, 1)), (1, ("g", 1))), 3), ("end", "done", ())]
        code = Code(World({"ask": (1, {"no": 0, "yes": 0})}), 2, 2, rows)
        self.assertEqual([fact(code, 3), kept_roads(code, 3)], [Pattern((0, 1)), [(("no",), 1), (("yes",), 1)]])
        self.assertIs(are_facts(code, [Pattern((0, 1))] * 3 + [Pattern((("f", 0), 1))]), False)
        self.assertIs(are_facts(code, [Pattern((0, 1))] * 3 + [Pattern((0, ("g", 0)))]), False)

    def test_brought_values_are_different_ones(self):
        ways = (("u", (0, 1), 1),), (("u", (2, 3), 2),)
        world = World({"get": (0, {"u": 2})})
        code = Code(world, 4, 0, [("ask", "get", (), ways[0]), ("ask", "get", (), ways[1]), ("end", "done", ())])
        self.assertEqual(fact(code, 2), Pattern((0, 1, 2, 3)))
        code = Code(world, 4, 1, [("ask", "get", (), ways[1]), ("end", "done", ()), ("end", "done", ())])
        self.assertEqual(fact(code, 2), Pattern((0, ("nil",), 1, 2)))

    def test_roads_in_their_order(self):
        rows = [("ask", "ask", (0,), (("yes", (0,), 1), ("no", (), 1))), ("set", ((0, ("c",)),), 2),
                ("set", ((0, ("d",)),), 1)]
        code = Code(WORLD, 1, 1, rows)
        self.assertEqual([kept_roads(code, place) for place in range(3)],
                         [[((), 0)], [(("no",), 0)], [(("no",), 1)]])

    def test_without_variables(self):
        code = Code(WORLDS[2], 0, 0, [("ask", "go", (), (("a", (), 0), ("b", (), 1), ("c", (), 0))), ("set", (), 1)])
        self.assertEqual([facts(code), kept_roads(code, 1)], [[Pattern(()), Pattern(())], [(("b",), 0)]])

    def test_as_told_a_second_time(self):
        seen = [0, 0]
        for code, most in codes():
            told = outcome_of(plain_facts, code, most)
            many = told[0] == TooMany
            seen[many] += 1
            self.assertEqual(unchanged(self, facts, code, most=most), told if many else told[1])
            for place in range(len(code)):
                self.assertEqual(outcome_of(kept_roads, code, place, most=most), told if many else told[0][place])
                self.assertEqual(outcome_of(fact, code, place, most=most), told if many else told[1][place])
        self.assertGreater(min(seen), 10)

    def test_what_goes_for_a_fact_goes_for_all_frames(self):
        rng = seeded(6)
        for code, _ in codes()[:60]:
            told = outcome_of(facts, code)
            if not isinstance(told, list):
                continue
            frames = [road_values(code, road) for road in roads_of(code)]
            for place in range(len(code)):
                values = [values for at, values in frames if at == place]
                self.assertEqual(told[place] is None, values == [])
                for _ in range(20 if values else 0):
                    one, other = [random_term(rng, 1, range(code.variables)) for _ in range(2)]
                    holds = plain_put(one, told[place].terms) == plain_put(other, told[place].terms)
                    kept = [road_values(code, road)[1] for road in kept_roads(code, place)]
                    for some in (values, kept):
                        all_hold = all(plain_put(one, row) == plain_put(other, row) for row in some)
                        self.assertTrue(all_hold if holds else not all_hold or some is values)


def roads_of(code):
    """Roads with few outcomes and few steps, all that there are."""
    found, ahead = [], [((), 0)]
    while ahead:
        road = ahead.pop()
        found.append(road)
        statement = code.statement(road_values(code, road)[0])
        if statement[0] == "set" and road[1] < 3:
            ahead.append((road[0], road[1] + 1))
        elif statement[0] == "ask" and len(road[0]) < 2:
            ahead.extend((road[0] + (way[0],), 0) for way in statement[3])
    return found


class ErrorsTest(unittest.TestCase):
    def test_no_place(self):
        for place in (-1, 3, 10 ** 39):
            for call in (fact, kept_roads):
                self.assertEqual(unchanged(self, call, GROW, place), (NoPlace, {"place": place}))
                self.assertEqual(outcome_of(call, ROUND, place, most=1), (NoPlace, {"place": place}))
            self.assertEqual(outcome_of(shows_fact, GROW, place, None), (NoPlace, {"place": place}))
            self.assertEqual(outcome_of(shows_fact, ROUND, place, [], most=1), (NoPlace, {"place": place}))

    def test_exactly_as_many_and_one_fewer(self):
        # The road behind the last kept one is looked at, too.
        for code, most in [(GROW, 3), (ROUND, 16), (APART, 1)]:
            for call, more in [(facts, ()), (fact, (0,)), (kept_roads, (0,)), (shows_fact, (0, [((), 0)]))]:
                if most > 1:
                    self.assertEqual(unchanged(self, call, code, *more, most=most - 1), (TooMany, {"limit": most - 1}))
                self.assertEqual(outcome_of(call, code, *more, most=most), call(code, *more))

    def test_a_road_to_another_place_is_too_great(self):
        code = Code(WORLD, 1, 1, [("set", (), 1), ("set", ((0, nested(201)),), 2), ("end", "done", ())])
        for place in range(3):
            self.assertEqual(outcome_of(fact, code, place), (TooMany, {"limit": 200}))
            self.assertEqual(outcome_of(shows_fact, code, place, [((), 0)]), (TooMany, {"limit": 200}))
        code = Code(WORLD, 1, 1, [("set", (), 1), ("set", ((0, nested(200)),), 2), ("end", "done", ())])
        self.assertEqual(fact(code, 2), Pattern((nested(200),)))

    def test_the_first_frame_counts(self):
        code = Code(WORLD, 3, 0, [("end", "done", ())])
        self.assertEqual(outcome_of(facts, code, most=2), (TooMany, {"limit": 2}))
        self.assertEqual(facts(code, most=3), [Pattern([("nil",)] * 3)])

    def test_values_that_double(self):
        code = Code(WORLD, 1, 0, [("ask", "ask", (0,), (("no", (), 1), ("yes", (0,), 0))), ("set", ((0, ("g", 0, 0)),), 0)])
        self.assertEqual(facts(code), [Pattern((0,)), Pattern((0,))])
        self.assertEqual(outcome_of(facts, code, most=2), (TooMany, {"limit": 2}))


class AreFactsTest(unittest.TestCase):
    def test_facts_are(self):
        for code, most in codes():
            told = outcome_of(facts, code, most=most)
            if isinstance(told, list):
                self.assertIs(unchanged(self, are_facts, code, told), True)

    def test_wider_ones(self):
        self.assertIs(are_facts(GROW, [Pattern((0, 1))] * 3), True)
        self.assertIs(are_facts(ROUND, [Pattern((0, 1, 2, 3))]), True)
        self.assertIs(are_facts(APART, [Pattern((0,))] * 3), True)
        self.assertIs(are_facts(APART, [Pattern((0,)), Pattern((0,)), Pattern((("d",),))]), True)
        ring = Code(WORLD, 1, 1, [("set", ((0, ("c",)),), 1), ("set", ((0, ("d",)),), 0)])
        self.assertIs(are_facts(ring, [Pattern((0,)), Pattern((0,))]), True)

    def test_narrower_ones(self):
        told = facts(GROW)
        for at in range(3):
            for other in [None, Pattern((0, 0)), Pattern((0, ("nil",))), Pattern((0, ("f", 1, 2))), Pattern((("c",), 0))]:
                self.assertIs(are_facts(GROW, told[:at] + [other] + told[at + 1:]), False)
        self.assertIs(are_facts(APART, [Pattern((0,)), Pattern((("c",),)), None]), False)
        self.assertIs(are_facts(APART, [None, None, None]), False)
        self.assertIs(are_facts(APART, [None, Pattern((0,)), None]), False)

    def test_a_place_that_no_road_leads_to_must_fit_too(self):
        rows = [("set", ((0, ("c",)),), 1), ("end", "done", (0,)), ("set", ((0, ("d",)),), 1)]
        code = Code(WORLD, 1, 1, rows)
        self.assertIs(are_facts(code, [Pattern((0,)), Pattern((("c",),)), None]), True)
        self.assertIs(are_facts(code, [Pattern((0,)), Pattern((("c",),)), Pattern((0,))]), False)

    def test_brought_values_are_new(self):
        rows = [("ask", "get", (), (("one", (1,), 1), ("two", (0, 1), 1))), ("end", "done", ())]
        code = Code(WORLDS[1], 2, 2, rows)
        self.assertIs(are_facts(code, [Pattern((0, 1)), Pattern((0, 1))]), True)
        self.assertIs(are_facts(code, [Pattern((0, 1)), Pattern((0, 0))]), False)
        self.assertIs(are_facts(code, [Pattern((0, 1)), Pattern((0, ("c",)))]), False)
        self.assertIs(are_facts(code, [Pattern((0, 0)), Pattern((0, 1))]), False)
        rows = [("ask", "get", (), (("one", (1,), 1), ("two", (1, 2), 1))), ("end", "done", ())]
        code = Code(WORLDS[1], 3, 3, rows)
        for pattern in [(0, 0, 1), (0, 1, 0), (0, 1, 1)]:
            self.assertIs(are_facts(code, [Pattern((0, 1, 2)), Pattern(pattern)]), False)

    def test_any_value(self):
        told = facts(GROW)
        for thing in any_values() + [tuple(told), told[:2], told + told[:1], told + [None], {0: told}, [told], in_lists(29),
                                     [None] * 9000, Pattern((0, 1)), GROW]:
            self.assertIs(are_facts(GROW, thing), False, thing)
        for other in any_values() + [Pattern((0,)), Pattern((0, 1, 2)), (0, 1), [0, 1], GROW, Pattern]:
            for at in range(3):
                if other is not None:
                    self.assertIs(are_facts(GROW, told[:at] + [other] + told[at + 1:]), False)
        self.assertIs(are_facts(Code(WORLD, 0, 0, [("end", "done", ())]), [Pattern(())]), True)

    def test_great_patterns(self):
        great = nested(15000)
        one = Code(WORLD, 1, 0, [("set", ((0, ("g", 0, 0)),), 1), ("end", "done", ())])
        self.assertIs(are_facts(one, [Pattern((0,)), Pattern((("g", 0, 0),))]), True)
        self.assertIs(are_facts(one, [Pattern((0,)), Pattern((great,))]), False)
        keep = Code(WORLD, 1, 1, [("set", (), 0)])
        self.assertIs(are_facts(keep, [Pattern((great,))]), False)


class ShowsFactTest(unittest.TestCase):
    def test_kept_roads_show_it(self):
        for code, most in codes():
            told = outcome_of(facts, code, most=most)
            for place in range(len(code) if isinstance(told, list) else 0):
                kept = kept_roads(code, place, most=most)
                self.assertIs(unchanged(self, shows_fact, code, place, kept, most=most), told[place] is not None)
                self.assertIs(shows_fact(code, place, kept[::-1], most=most), told[place] is not None)

    def test_roads_out_twice_and_more(self):
        kept = kept_roads(GROW, 0)
        self.assertIs(shows_fact(GROW, 0, kept[:1]), False)
        self.assertIs(shows_fact(GROW, 0, kept[1:]), False)
        self.assertIs(shows_fact(GROW, 0, kept + kept[:1]), False)
        self.assertIs(shows_fact(GROW, 0, kept + [(("yes", "yes"), 1)]), True)
        self.assertIs(shows_fact(GROW, 0, [(("yes", "yes"), 1)] + kept[:1]), True)
        self.assertIs(shows_fact(GROW, 0, [(("yes", "yes"), 1)] + kept[1:]), False)
        self.assertIs(shows_fact(GROW, 0, kept + [(("yes",), 0)]), False)
        self.assertIs(shows_fact(GROW, 0, kept + [(("yes", "x"), 0)]), False)
        self.assertIs(shows_fact(GROW, 1, kept), False)

    def test_one_road_is_enough_for_unknowns(self):
        turn = Code(WORLD, 2, 2, [("set", ((0, 1), (1, 0)), 0)])
        for steps in (0, 1, 9998, 9999):
            self.assertIs(shows_fact(turn, 0, [((), steps)]), True)
        self.assertIs(shows_fact(turn, 0, [((), 10000)]), False)
        self.assertIs(shows_fact(turn, 0, [((), steps) for steps in range(5000)]), True)

    def test_where_long_roads_lead(self):
        ring = Code(WORLD, 1, 1, [("set", (), 1), ("set", (), 2), ("set", (), 3), ("set", (), 1)])
        for steps in list(range(12)) + [9997, 9998, 9999]:
            there = steps if steps == 0 else 1 + (steps - 1) % 3
            self.assertEqual(road_frame(ring, ((), steps)), (there, (0,)))
            for place in range(4):
                self.assertIs(shows_fact(ring, place, [((), steps)]), place == there)

    def test_each_choice_of_roads(self):
        kept = kept_roads(ROUND, 0) + [((), 7)]
        for many in range(4):
            for roads in itertools.permutations(kept, many):
                patterns = [Pattern(road_frame(ROUND, road)[1]) for road in roads]
                told = functools.reduce(lambda one, other: one | other, patterns) if patterns else None
                self.assertIs(shows_fact(ROUND, 0, list(roads)), told == fact(ROUND, 0))

    def test_too_great_roads_and_places_without_a_fact(self):
        rows = [("ask", "ask", (0,), (("no", (), 0), ("yes", (0,), 1))), ("set", ((0, ("f", 0)), (1, ("f", 1))), 0)]
        code = Code(WORLD, 2, 2, rows)
        kept = kept_roads(code, 0)
        self.assertIs(shows_fact(code, 0, kept, most=4), True)
        self.assertIs(shows_fact(code, 0, kept + [(("yes", "yes"), 1)], most=4), True)
        self.assertIs(shows_fact(code, 0, kept + [(("yes",) * 4, 1)], most=4), False)
        self.assertIs(shows_fact(code, 0, kept + [(("yes",) * 4, 1)], most=5), True)
        for thing in ([], [((), 0)], None):
            self.assertIs(shows_fact(APART, 2, thing), False)

    def test_any_value(self):
        kept = kept_roads(GROW, 0)
        for thing in any_values() + [tuple(kept), [], [kept], [list(kept[0])] + kept[1:], [((), 0), (["yes"], 1)],
                                     [((), False), (("yes",), True)], [((), 0), ("yes", 1)], [((), 0), ((Pleasing(),), 1)],
                                     [((), 0), Pleasing()], {road: 0 for road in kept}, in_lists(30), [((), 0)] * 5000,
                                     kept + [None]]:
            self.assertIs(shows_fact(GROW, 0, thing), False, thing)


class SameTest(unittest.TestCase):
    def test_a_small_limit_ahead_of_a_greater_one(self):
        told = [facts(GROW), kept_roads(ROUND, 0)]
        for most in (1, 2, 3, 2, 200, 1, 16, 15, 4):
            outcome_of(facts, GROW, most=most), outcome_of(kept_roads, ROUND, 0, most=most)
            self.assertEqual([facts(GROW), kept_roads(ROUND, 0)], told)

    def test_two_codes_by_turns(self):
        told = [facts(GROW), facts(ROUND)]
        for _ in range(3):
            self.assertEqual([facts(GROW), facts(ROUND)], told)
            self.assertEqual(road_frame(GROW, (("yes",), 1)), (0, (1, ("f", 1, ("nil",)))))

    def test_new_lists_are_returned(self):
        for call, more in [(facts, ()), (kept_roads, (0,))]:
            told = call(GROW, *more)
            told.reverse()
            told.append(0)
            self.assertEqual(call(GROW, *more), told[:-1][::-1])


if __name__ == "__main__":
    unittest.main()
