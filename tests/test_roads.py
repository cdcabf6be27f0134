import itertools
import time
import unittest

from framemoves.codes import Code
from framemoves.errors import Broken, TooMany
from framemoves.roads import is_road, road_frame
from framemoves.runs import answered, frame_after, onward
from framemoves.terms import size
from framemoves.worlds import World
from plain import behind_set, random_statement
from support import Pleasing, any_values, full, in_lists, nested, outcome_of, seeded, unchanged

WORLD = World({"ask": (1, {"no": 0, "yes": 1})})
GROW = Code(WORLD, 2, 1, [("ask", "ask", (0,), (("no", (), 2), ("yes", (0,), 1))), ("set", ((1, ("f", 0, 1)),), 0),
                          ("end", "done", (1,))])
TURN = Code(WORLD, 2, 2, [("set", ((0, 1), (1, 0)), 0)])
PAIR = World({"get": (0, {"x": 2, "y-": 0})})


class ExampleTest(unittest.TestCase):
    def test_as_it_stands(self):
        self.assertEqual(road_frame(GROW, (("yes",), 1)), (0, (1, ("f", 1, ("nil",)))))


class RoadFrameTest(unittest.TestCase):
    def test_no_outcomes_and_no_steps(self):
        self.assertEqual(road_frame(GROW, ((), 0)), (0, (0, ("nil",))))
        self.assertEqual(road_frame(GROW, (("yes",), 0)), (1, (1, ("nil",))))
        self.assertEqual(road_frame(GROW, (("no",), 0)), (2, (0, ("nil",))))

    def test_outcomes_go_over_sets(self):
        self.assertEqual(road_frame(GROW, (("yes", "yes"), 0)), (1, (2, ("f", 1, ("nil",)))))
        self.assertEqual(road_frame(GROW, (("yes", "yes"), 1)), (0, (2, ("f", 2, ("f", 1, ("nil",))))))

    def test_values_are_numbered_on_from_given(self):
        one = Code(PAIR, 3, 1, [("ask", "get", (), (("x", (2, 1), 0), ("y-", (), 0)))])
        self.assertEqual(road_frame(one, (("x", "y-", "x"), 0)), (0, (0, 4, 3)))

    def test_9999_steps(self):
        self.assertEqual(road_frame(TURN, ((), 9999)), (0, (1, 0)))
        self.assertEqual(road_frame(TURN, ((), 9998)), (0, (0, 1)))
        self.assertEqual(road_frame(TURN, ((), 10001)), (0, (1, 0)))

    def test_steps_stop_ahead_of_the_next_statement(self):
        rows = [("set", ((0, ("f", 0)),), at + 1) for at in range(5)] + [("end", "done", ())]
        one = Code(WORLD, 1, 1, rows)
        for steps in range(6):
            self.assertEqual(road_frame(one, ((), steps)), (steps, (nested(steps),)))
        self.assertEqual(outcome_of(road_frame, one, ((), 6)), (Broken, {"at": 0}))

    def test_broken(self):
        for road, at in [((("maybe",), 0), 0), ((("yes", "x"), 0), 1), ((("no", "yes"), 0), 1), ((("no", "yes"), 5), 1),
                         (((), 1), 0), ((("yes",), 2), 1), ((("no",), 1), 1), ((("yes", "no"), 9999), 2),
                         ((("yes", "yes", "-"), 0), 2), (((), 9999), 0)]:
            self.assertEqual(unchanged(self, road_frame, GROW, road), (Broken, {"at": at}))
            self.assertIs(is_road(GROW, road), False)

    def test_nothing_is_asked_at_a_silent_place(self):
        self.assertEqual(outcome_of(road_frame, TURN, (("yes",), 0)), (Broken, {"at": 0}))
        self.assertEqual(outcome_of(road_frame, TURN, (("yes",), 0), most=1), (Broken, {"at": 0}))

    def test_as_runs_tell(self):
        for length in range(4):
            for outcomes in itertools.product(["yes", "no"], repeat=length):
                if "no" not in outcomes[:-1]:
                    frame = frame_after(GROW, list(outcomes))
                    self.assertEqual(road_frame(GROW, (outcomes, 0)), frame)
                    if frame[0] == 1:
                        self.assertEqual(road_frame(GROW, (outcomes, 1)), onward(GROW, frame))


class MostTest(unittest.TestCase):
    def test_exactly_as_many_and_one_fewer(self):
        for yes in range(1, 6):
            road = (("yes",) * yes, 1)
            self.assertEqual(road_frame(GROW, road, most=yes + 1), road_frame(GROW, road))
            self.assertEqual(unchanged(self, road_frame, GROW, road, most=yes), (TooMany, {"limit": yes}))

    def test_200(self):
        one = Code(WORLD, 1, 1, [("set", ((0, nested(200)),), 1), ("set", ((0, ("f", 0)),), 2), ("end", "done", ())])
        self.assertEqual(road_frame(one, ((), 1)), (1, (nested(200),)))
        self.assertEqual(outcome_of(road_frame, one, ((), 2)), (TooMany, {"limit": 200}))
        self.assertEqual(outcome_of(road_frame, one, ((), 1), most=199), (TooMany, {"limit": 199}))

    def test_the_first_frame_counts(self):
        one = Code(WORLD, 5, 2, [("set", ((2, 0), (3, 0), (4, 0)), 1), ("end", "done", ())])
        self.assertEqual(outcome_of(road_frame, one, ((), 0), most=2), (TooMany, {"limit": 2}))
        self.assertEqual(outcome_of(road_frame, one, ((), 1), most=2), (TooMany, {"limit": 2}))
        self.assertEqual(road_frame(one, ((), 0), most=3)[0], 0)
        self.assertEqual(road_frame(one, ((), 1), most=3), (1, (0, 1, 0, 0, 0)))

    def test_frames_on_the_way_count(self):
        rows = [("set", ((0, nested(5)),), 1), ("set", ((0, 1),), 2),
                ("ask", "ask", (0,), (("no", (), 0), ("yes", (1,), 1)))]
        one = Code(WORLD, 2, 2, rows)
        for road in [((), 1), ((), 2), (("no",), 0), (("yes", "no"), 0), (("yes",), 1)]:
            self.assertEqual(outcome_of(road_frame, one, road, most=4), (TooMany, {"limit": 4}))
            self.assertIsInstance(road_frame(one, road, most=5), tuple)
        self.assertEqual(road_frame(one, ((), 0), most=1), (0, (0, 1)))

    def test_broken_goes_ahead(self):
        one = Code(WORLD, 1, 1, [("set", ((0, nested(300)),), 1),
                                 ("ask", "ask", (0,), (("no", (), 1), ("yes", (0,), 1)))])
        self.assertEqual(outcome_of(road_frame, one, (("x",), 0)), (Broken, {"at": 0}))
        self.assertEqual(outcome_of(road_frame, one, (("no",), 1)), (Broken, {"at": 1}))
        self.assertEqual(outcome_of(road_frame, one, (("no",), 0)), (TooMany, {"limit": 200}))
        self.assertIs(is_road(one, (("no",), 0)), True)


def far(terms, *more):
    """A code with an ask, behind which a ring of sets with these changes goes on for ever."""
    places = range(len(terms))
    rows = [("set", changes, 1 + (at + 1) % len(terms)) for at, changes in zip(places, terms)]
    return Code(WORLD, 4, 3, [("ask", "ask", (0,), (("no", (), 1), ("yes", (2,), 1)))] + rows + list(more))


EXCHANGE = far([((0, 1), (1, 0))])
KEEP = far([(), ((0, 0),), ()])
# An operation is put in, and taken out again as the value is replaced; the greatest values stand in the midst.
HIGH = far([((3, ("f", 0)),), ((3, ("g", 3, 3)),), ((3, 1),), ((0, 2), (2, 0))])
ONCE = far([((3, nested(40, 0)), (2, ("c",))), ((3, ("c",)), (0, 1), (1, 0))])
LONG = far([tuple((at, (at + 1) % 4) for at in range(4))] * 7 + [((0, 1), (1, 2), (2, 0))])
# With each round there is one operation more.
GROWING = far([((3, ("f", 3)),), (), ((0, 1), (1, 0))])
SLOW = far([((0, 1), (1, 2), (2, 3), (3, ("f", 0)))] + [()] * 5)


def plain_frames(code, outcomes, steps):
    """The frames on the way of a road, one step after another, up to one with more than 200 operations."""
    frames = [code.first()]
    for outcome in outcomes:
        frames.append(answered(code, frames[-1], outcome, code.given + len(frames) - 1))
    for _ in range(steps):
        if size(list(frames[-1][1])) <= 200:
            statement = code.statement(frames[-1][0])
            frames.append((statement[2], behind_set(statement, frames[-1][1])))
    return frames


class LongRoadsTest(unittest.TestCase):
    CODES = (EXCHANGE, KEEP, HIGH, ONCE, LONG)

    def test_as_single_steps_tell(self):
        for code in self.CODES:
            for outcomes in (("yes",), ("no",)):
                frames = plain_frames(code, outcomes, 9999)
                for steps in [0, 1, 2, 3, 5, 60, 1000, 4999, 9998, 9999]:
                    self.assertEqual(road_frame(code, (outcomes, steps)), frames[1 + steps])

    def test_limits(self):
        for code in self.CODES:
            frames = plain_frames(code, ("yes",), 9999)
            for steps in (0, 1, 2, 3, 4, 9998, 9999):
                most = max(size(list(values)) for _, values in frames[:2 + steps])
                road = (("yes",), steps)
                self.assertEqual(road_frame(code, road, most=most), frames[1 + steps])
                if most > 1:
                    self.assertEqual(unchanged(self, road_frame, code, road, most=most - 1), (TooMany, {"limit": most - 1}))

    def test_the_largest_values_in_the_midst(self):
        for code, steps, most in [(HIGH, 2, 3), (HIGH, 9998, 3), (ONCE, 1, 41), (ONCE, 2, 41), (ONCE, 9999, 41)]:
            road = (("no",), steps)
            self.assertIsInstance(road_frame(code, road, most=most), tuple)
            self.assertEqual(outcome_of(road_frame, code, road, most=most - 1), (TooMany, {"limit": most - 1}))
        self.assertLess(size(list(road_frame(ONCE, (("no",), 9998))[1])), 5)

    def test_values_that_grow(self):
        for code, first in [(GROWING, 200), (SLOW, 200)]:
            frames = plain_frames(code, ("no",), 9999)
            count = len(frames) - 3
            self.assertEqual(road_frame(code, (("no",), count)), frames[count + 1])
            self.assertEqual(size(list(frames[count + 1][1])), first)
            for steps in (count + 1, count + 2, 9998, 9999):
                self.assertEqual(outcome_of(road_frame, code, (("no",), steps)), (TooMany, {"limit": 200}))
            for most in (2, 7, 199):
                fits = max(at for at, (_, values) in enumerate(frames) if size(list(values)) <= most) - 1
                self.assertEqual(road_frame(code, (("no",), fits), most=most), frames[fits + 1])
                self.assertEqual(outcome_of(road_frame, code, (("no",), fits + 1), most=most), (TooMany, {"limit": most}))

    def test_values_that_become_smaller(self):
        rows = [("set", ((0, full(6)), (1, 1)), 1)] + [("set", ((0, ("c",)),), 2), ("set", ((1, ("f", 0)),), 3),
                                                      ("set", ((0, 1), (1, 0)), 2)]
        code = Code(WORLD, 2, 2, rows)
        frames = plain_frames(code, (), 300)
        for steps in range(len(frames)):
            told = outcome_of(road_frame, code, ((), steps))
            self.assertEqual(told, frames[steps] if size(list(frames[steps][1])) <= 200 else (TooMany, {"limit": 200}))

    def test_broken_goes_ahead(self):
        rows = [("set", ((0, nested(300)),), at + 1) for at in range(5)] + [("end", "done", ())]
        one = Code(WORLD, 1, 1, rows)
        for steps in (6, 7, 9998, 9999):
            self.assertEqual(outcome_of(road_frame, one, ((), steps)), (Broken, {"at": 0}))
        self.assertEqual(outcome_of(road_frame, one, ((), 5)), (TooMany, {"limit": 200}))
        self.assertEqual(outcome_of(road_frame, EXCHANGE, (("yes", "yes"), 9999)), (Broken, {"at": 1}))
        self.assertEqual(outcome_of(road_frame, EXCHANGE, ((), 9999)), (Broken, {"at": 0}))

    def test_random_rings(self):
        rng = seeded(8)
        ends = [0, 0]
        for _ in range(150):
            variables = rng.randrange(1, 5)
            rows = [random_statement(rng, WORLD, variables, 4, ["set"], 1) for _ in range(4)]
            code = Code(WORLD, variables, rng.randrange(variables + 1), rows)
            frames = plain_frames(code, (), 60)
            for steps in (0, 1, 2, 7, 30, 59, 60):
                most = rng.choice([2, 5, 200])
                great = any(size(list(values)) > most for _, values in frames[:steps + 1])
                told = outcome_of(road_frame, code, ((), steps), most=most)
                self.assertEqual(told, (TooMany, {"limit": most}) if great else frames[steps])
                ends[great] += 1
        self.assertGreater(min(ends), 100)

    def test_it_does_not_take_long(self):
        begin = time.perf_counter()
        for code, road in [(TURN, ((), 9999)), (HIGH, (("yes",), 9999)), (LONG, (("no",), 9998)), (GROWING, (("no",), 9999))]:
            for _ in range(10):
                outcome_of(road_frame, code, road)
        self.assertLess((time.perf_counter() - begin) / 40, 0.03)


class IsRoadTest(unittest.TestCase):
    def test_roads(self):
        for thing in [((), 0), (("yes",), 0), (("yes",), 1), (("no",), 0), (("yes",) * 12 + ("no",), 0)]:
            self.assertIs(unchanged(self, is_road, GROW, thing), True)
        for steps in (0, 1, 9999):
            self.assertIs(is_road(TURN, ((), steps)), True)

    def test_steps(self):
        for steps in (10000, 10 ** 39, -1, True, False, None, "0", (0,), [0]):
            self.assertIs(is_road(TURN, ((), steps)), False)
        self.assertIs(is_road(GROW, (("yes",), True)), False)

    def test_any_value(self):
        for thing in any_values() + [(), ((),), ((), 0, 0), [(), 0], ([], 0), (["yes"], 0), ("yes", 0), ({}, 0),
                                     (None, 0),
                                     ((None,), 0), ((Pleasing(),), 0), (("yes",), Pleasing()),
                                     ((True,), 0), ((("yes",),), 0), ((["yes"],), 0), ((b"yes",), 0),
                                     (("",), 0), (("yes", 0), 0), (0, ()), (("ye\ns",), 0), (in_lists(28), 0),
                                     ((in_lists(28),), 0), (tuple(["yes"] * 9000 + ["x"]), 0)]:
            self.assertIs(is_road(GROW, thing), False, thing)

    def test_values_do_not_matter(self):
        one = Code(WORLD, 1, 1, [("set", ((0, ("f", 0, 0)),), 0)])
        self.assertIs(is_road(one, ((), 9999)), True)
        self.assertEqual(outcome_of(road_frame, one, ((), 9999)), (TooMany, {"limit": 200}))


if __name__ == "__main__":
    unittest.main()
