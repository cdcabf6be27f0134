import itertools
import unittest

from framemoves.codes import Code
from framemoves.errors import Broken, TooMany
from framemoves.roads import is_road, road_frame
from framemoves.runs import frame_after, onward
from framemoves.worlds import World
from support import Pleasing, any_values, in_lists, nested, outcome_of, unchanged

WORLD = World({"ask": (1, {"no": 0, "yes": 1})})
GROW = Code(WORLD, 2, 1, [("ask", "ask", (0,), (("no", (), 2), ("yes", (0,), 1))), ("set", ((1, ("f", 0, 1)),), 0),
                          ("end", "done", (1,))])
TURN = Code(WORLD, 2, 2, [("set", ((0, 1), (1, 0)), 0)])
PAIR = World({"get": (0, {"x": 2, "y-": 0})})


class ExampleTest(unittest.TestCase):
    def test_as_it_stands(self):
        self.assertEqual(road_frame(GROW, (("yes",), 1)), (0, (1, ("f", 1, ("nil",)))))


class RoadFrameTest(unittest.TestCase):
    def test_no_outcomes_and_no_steps(self):
        self.assertEqual(road_frame(GROW, ((), 0)), (0, (0, ("nil",))))
        self.assertEqual(road_frame(GROW, (("yes",), 0)), (1, (1, ("nil",))))
        self.assertEqual(road_frame(GROW, (("no",), 0)), (2, (0, ("nil",))))

    def test_outcomes_go_over_sets(self):
        self.assertEqual(road_frame(GROW, (("yes", "yes"), 0)), (1, (2, ("f", 1, ("nil",)))))
        self.assertEqual(road_frame(GROW, (("yes", "yes"), 1)), (0, (2, ("f", 2, ("f", 1, ("nil",))))))

    def test_values_are_numbered_on_from_given(self):
        one = Code(PAIR, 3, 1, [("ask", "get", (), (("x", (2, 1), 0), ("y-", (), 0)))])
        self.assertEqual(road_frame(one, (("x", "y-", "x"), 0)), (0, (0, 4, 3)))

    def test_9999_steps(self):
        self.assertEqual(road_frame(TURN, ((), 9999)), (0, (1, 0)))
        self.assertEqual(road_frame(TURN, ((), 9998)), (0, (0, 1)))
        self.assertEqual(road_frame(TURN, ((), 10001)), (0, (1, 0)))

    def test_steps_stop_ahead_of_the_next_statement(self):
        rows = [("set", ((0, ("f", 0)),), at + 1) for at in range(5)] + [("end", "done", ())]
        one = Code(WORLD, 1, 1, rows)
        for steps in range(6):
            self.assertEqual(road_frame(one, ((), steps)), (steps, (nested(steps),)))
        self.assertEqual(outcome_of(road_frame, one, ((), 6)), (Broken, {"at": 0}))

    def test_broken(self):
        for road, at in [((("maybe",), 0), 0), ((("yes", "x"), 0), 1), ((("no", "yes"), 0), 1), ((("no", "yes"), 5), 1),
                         (((), 1), 0), ((("yes",), 2), 1), ((("no",), 1), 1), ((("yes", "no"), 9999), 2),
                         ((("yes", "yes", "-"), 0), 2), (((), 9999), 0)]:
            self.assertEqual(unchanged(self, road_frame, GROW, road), (Broken, {"at": at}))
            self.assertIs(is_road(GROW, road), False)

    def test_nothing_is_asked_at_a_silent_place(self):
        self.assertEqual(outcome_of(road_frame, TURN, (("yes",), 0)), (Broken, {"at": 0}))
        self.assertEqual(outcome_of(road_frame, TURN, (("yes",), 0), most=1), (Broken, {"at": 0}))

    def test_as_runs_tell(self):
        for length in range(4):
            for outcomes in itertools.product(["yes", "no"], repeat=length):
                if "no" not in outcomes[:-1]:
                    frame = frame_after(GROW, list(outcomes))
                    self.assertEqual(road_frame(GROW, (outcomes, 0)), frame)
                    if frame[0] == 1:
                        self.assertEqual(road_frame(GROW, (outcomes, 1)), onward(GROW, frame))


class MostTest(unittest.TestCase):
    def test_exactly_as_many_and_one_fewer(self):
        for yes in range(1, 6):
            road = (("yes",) * yes, 1)
            self.assertEqual(road_frame(GROW, road, most=yes + 1), road_frame(GROW, road))
            self.assertEqual(unchanged(self, road_frame, GROW, road, most=yes), (TooMany, {"limit": yes}))

    def test_200(self):
        one = Code(WORLD, 1, 1, [("set", ((0, nested(200)),), 1), ("set", ((0, ("f", 0)),), 2), ("end", "done", ())])
        self.assertEqual(road_frame(one, ((), 1)), (1, (nested(200),)))
        self.assertEqual(outcome_of(road_frame, one, ((), 2)), (TooMany, {"limit": 200}))
        self.assertEqual(outcome_of(road_frame, one, ((), 1), most=199), (TooMany, {"limit": 199}))

    def test_the_first_frame_counts(self):
        one = Code(WORLD, 5, 2, [("set", ((2, 0), (3, 0), (4, 0)), 1), ("end", "done", ())])
        self.assertEqual(outcome_of(road_frame, one, ((), 0), most=2), (TooMany, {"limit": 2}))
        self.assertEqual(outcome_of(road_frame, one, ((), 1), most=2), (TooMany, {"limit": 2}))
        self.assertEqual(road_frame(one, ((), 0), most=3)[0], 0)
        self.assertEqual(road_frame(one, ((), 1), most=3), (1, (0, 1, 0, 0, 0)))

    def test_frames_on_the_way_count(self):
        rows = [("set", ((0, nested(5)),), 1), ("set", ((0, 1),), 2),
                ("ask", "ask", (0,), (("no", (), 0), ("yes", (1,), 1)))]
        one = Code(WORLD, 2, 2, rows)
        for road in [((), 1), ((), 2), (("no",), 0), (("yes", "no"), 0), (("yes",), 1)]:
            self.assertEqual(outcome_of(road_frame, one, road, most=4), (TooMany, {"limit": 4}))
            self.assertIsInstance(road_frame(one, road, most=5), tuple)
        self.assertEqual(road_frame(one, ((), 0), most=1), (0, (0, 1)))

    def test_broken_goes_ahead(self):
        one = Code(WORLD, 1, 1, [("set", ((0, nested(300)),), 1),
                                 ("ask", "ask", (0,), (("no", (), 1), ("yes", (0,), 1)))])
        self.assertEqual(outcome_of(road_frame, one, (("x",), 0)), (Broken, {"at": 0}))
        self.assertEqual(outcome_of(road_frame, one, (("no",), 1)), (Broken, {"at": 1}))
        self.assertEqual(outcome_of(road_frame, one, (("no",), 0)), (TooMany, {"limit": 200}))
        self.assertIs(is_road(one, (("no",), 0)), True)


class IsRoadTest(unittest.TestCase):
    def test_roads(self):
        for thing in [((), 0), (("yes",), 0), (("yes",), 1), (("no",), 0), (("yes",) * 12 + ("no",), 0)]:
            self.assertIs(unchanged(self, is_road, GROW, thing), True)
        for steps in (0, 1, 9999):
            self.assertIs(is_road(TURN, ((), steps)), True)

    def test_steps(self):
        for steps in (10000, 10 ** 39, -1, True, False, None, "0", (0,), [0]):
            self.assertIs(is_road(TURN, ((), steps)), False)
        self.assertIs(is_road(GROW, (("yes",), True)), False)

    def test_any_value(self):
        for thing in any_values() + [(), ((),), ((), 0, 0), [(), 0], ([], 0), (["yes"], 0), ("yes", 0), ({}, 0),
                                     (None, 0),
                                     ((None,), 0), ((Pleasing(),), 0), (("yes",), Pleasing()),
                                     ((True,), 0), ((("yes",),), 0), ((["yes"],), 0), ((b"yes",), 0),
                                     (("",), 0), (("yes", 0), 0), (0, ()), (("ye\ns",), 0), (in_lists(28), 0),
                                     ((in_lists(28),), 0), (tuple(["yes"] * 9000 + ["x"]), 0)]:
            self.assertIs(is_road(GROW, thing), False, thing)

    def test_values_do_not_matter(self):
        one = Code(WORLD, 1, 1, [("set", ((0, ("f", 0, 0)),), 0)])
        self.assertIs(is_road(one, ((), 9999)), True)
        self.assertEqual(outcome_of(road_frame, one, ((), 9999)), (TooMany, {"limit": 200}))


if __name__ == "__main__":
    unittest.main()
