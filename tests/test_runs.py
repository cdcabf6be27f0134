import itertools
import unittest

from framemoves.codes import Code
from framemoves.errors import Broken, TooMany, Unfit
from framemoves.runs import answered, frame_after, head, is_run, onward, seen
from framemoves.worlds import World
from support import Pleasing, any_values, in_lists, nested, outcome_of, unchanged

WORLD = World({"check": (0, {"ok": 0, "bad": 0}), "work": (1, {"done": 1})})
ROWS = [("ask", "check", (), (("ok", (), 1), ("bad", (), 3))), ("set", ((1, ("f", 0)),), 2),
        ("ask", "work", (1,), (("done", (0,), 0),)), ("end", "out", (0, 1))]
CODE = Code(WORLD, 2, 1, ROWS)

GET = World({"get": (0, {"none": 0, "one": 1, "two": 2}), "put": (2, {"done": 0})})


def growing(many):
    """A code that sets its one variable to a term with so many operations, then asks, then ends."""
    ways = (("none", (), 2), ("one", (0,), 2), ("two", (0, 1), 2))
    return Code(GET, 2, 2, [("set", ((0, nested(many)),), 1), ("ask", "get", (), ways), ("end", "end", (0,))])


class ExampleTest(unittest.TestCase):
    def test_as_it_stands(self):
        self.assertEqual(frame_after(CODE, ["ok", "done"]), (0, (1, ("f", 0))))
        self.assertEqual(seen(CODE, ["ok", "done", "bad"]),
                         [("ask", "check", ()), ("ask", "work", (("f", 0),)), ("ask", "check", ()),
                          ("end", "out", (1, ("f", 0)))])


class FramesTest(unittest.TestCase):
    def test_onward(self):
        self.assertEqual(onward(CODE, (1, (7, 8))), (2, (7, ("f", 7))))
        for place in (0, 2, 3):
            self.assertEqual(onward(CODE, (place, (7, ("c",)))), (place, (7, ("c",))))

    def test_sets_use_the_values_before(self):
        one = Code(WORLD, 2, 2, [("set", ((0, 1), (1, ("f", 0))), 1), ("set", ((1, 0), (0, 1)), 2), ("end", "out", ())])
        self.assertEqual(onward(one, (0, (5, 6))), (2, (("f", 5), 6)))
        self.assertEqual(onward(one, (1, (5, 6))), (2, (6, 5)))

    def test_head(self):
        self.assertEqual(head(CODE, (0, (7, 8))), ("ask", "check", ()))
        self.assertEqual(head(CODE, (1, (7, 8))), ("ask", "work", (("f", 7),)))
        self.assertEqual(head(CODE, (2, (7, ("g", 1)))), ("ask", "work", (("g", 1),)))
        self.assertEqual(head(CODE, (3, (("c",), 8))), ("end", "out", (("c",), 8)))

    def test_answered(self):
        self.assertEqual(answered(CODE, (0, (7, 8)), "ok", 9), (1, (7, 8)))
        self.assertEqual(answered(CODE, (1, (7, 8)), "done", 0), (0, (0, ("f", 7))))
        self.assertEqual(answered(CODE, (2, (7, 8)), "done", 10 ** 39), (0, (10 ** 39, 8)))

    def test_brought_values_are_numbered_in_order(self):
        one = Code(GET, 3, 0, [("ask", "get", (), (("none", (), 0), ("one", (1,), 0), ("two", (2, 0), 0)))])
        self.assertEqual(answered(one, (0, (4, 5, 6)), "two", 7), (0, (8, 5, 7)))
        self.assertEqual(answered(one, (0, (4, 5, 6)), "one", 7), (0, (4, 7, 6)))
        self.assertEqual(answered(one, (0, (4, 5, 6)), "none", 7), (0, (4, 5, 6)))

    def test_unfit(self):
        silent = Code(WORLD, 1, 1, [("set", ((0, ("f", 0, 0)),), 0)])
        for one, frame, outcome in [(CODE, (0, (0, 1)), "done"), (CODE, (0, (0, 1)), ""), (CODE, (2, (0, 1)), "ok"),
                                    (CODE, (3, (0, 1)), "ok"), (CODE, (1, (0, 1)), "ok-"), (silent, (0, (0,)), "ok")]:
            with self.assertRaises(Unfit):
                answered(one, frame, outcome, 5)

    def test_silent_places(self):
        rows = [("set", ((0, ("f", 0, 0)),), 1), ("set", ((0, ("f", 0, 0)),), 0), ("set", ((0, nested(300)),), 1)]
        one = Code(WORLD, 1, 1, rows)
        for place in range(3):
            for value in (0, nested(250)):
                self.assertIsNone(onward(one, (place, (value,))))
                self.assertEqual(head(one, (place, (value,))), ("silent",))
        self.assertEqual([seen(one, []), is_run(one, []), frame_after(one, [])], [[("silent",)], True, (0, (0,))])

    def test_frames_stay_as_they_are(self):
        for call in (onward, head):
            unchanged(self, call, CODE, (1, (0, ("f", 0))))
        unchanged(self, answered, CODE, (1, (0, ("f", 0))), "done", 5)


class SeenTest(unittest.TestCase):
    def test_without_outcomes(self):
        self.assertEqual([seen(CODE, []), frame_after(CODE, [])], [[("ask", "check", ())], (0, (0, ("nil",)))])
        self.assertEqual(seen(growing(3), []), [("ask", "get", ())])

    def test_values_are_numbered_on_from_given(self):
        one = Code(GET, 4, 2, [("ask", "get", (), (("none", (), 1), ("one", (1,), 1), ("two", (3, 2), 1))),
                               ("ask", "put", (2, 3), (("done", (), 0),))])
        self.assertEqual(frame_after(one, ["two", "done", "none", "done", "one"]), (1, (0, 4, 3, 2)))
        self.assertEqual(seen(one, ["two", "done", "two"]),
                         [("ask", "get", ()), ("ask", "put", (3, 2)), ("ask", "get", ()), ("ask", "put", (5, 4))])

    def test_broken(self):
        for outcomes, at in [(["done"], 0), ([""], 0), (["ok", "ok"], 1), (["ok", "done", "bad", "ok"], 3),
                             (["bad", "x"], 1),
                             (["ok-"], 0), (["ok", "done", "Ok"], 2), (["bad", "ok", "x"], 1), (["x" * 50, "y"], 0)]:
            for call in (seen, frame_after):
                self.assertEqual(unchanged(self, call, CODE, outcomes), (Broken, {"at": at}))
            self.assertIs(is_run(CODE, outcomes), False)

    def test_silence_ends_a_run(self):
        one = Code(WORLD, 1, 1, [("ask", "check", (), (("ok", (), 1), ("bad", (), 0))), ("set", (), 1)])
        self.assertEqual(seen(one, ["bad", "ok"]), [("ask", "check", ()), ("ask", "check", ()), ("silent",)])
        self.assertEqual(frame_after(one, ["bad", "ok"]), (1, (0,)))
        self.assertEqual(outcome_of(seen, one, ["ok", "ok"]), (Broken, {"at": 1}))

    def test_seen_is_what_heads_tell(self):
        for length in range(5):
            for outcomes in itertools.product(["ok", "bad", "done"], repeat=length):
                if is_run(CODE, list(outcomes)):
                    told = [head(CODE, frame_after(CODE, list(outcomes[:at]))) for at in range(length + 1)]
                    self.assertEqual(seen(CODE, list(outcomes)), told)
                else:
                    self.assertEqual(outcome_of(seen, CODE, list(outcomes))[0], Broken)

    def test_a_long_run(self):
        outcomes = ["ok", "done"] * 200
        self.assertEqual(frame_after(CODE, outcomes), (0, (200, ("f", 199))))
        self.assertEqual(len(seen(CODE, outcomes)), 401)

    def test_new_lists_are_returned(self):
        seen(CODE, ["ok"]).append(0)
        self.assertEqual(len(seen(CODE, ["ok"])), 2)


class IsRunTest(unittest.TestCase):
    def test_runs(self):
        for thing in [[], ["ok"], ["bad"], ["ok", "done"], ["ok", "done", "bad"]]:
            self.assertIs(unchanged(self, is_run, CODE, thing), True)

    def test_any_value(self):
        for thing in any_values() + [("ok",), "ok", {"ok": 0}, {"ok"}, ["ok", Pleasing()], ["ok", None],
                                     ["ok", ["done"]], [("ok",)],
                                     ["ok", 1],
                                     [b"ok"], [True], ["ok", "done", True], in_lists(30), ["ok", "done"] * 9000 + [0]]:
            self.assertIs(is_run(CODE, thing), False, thing)


class TooManyTest(unittest.TestCase):
    def check(self, call, *things):
        self.assertEqual(unchanged(self, call, *things), (TooMany, {"limit": 200}))

    def test_exactly_200(self):
        one = growing(200)
        self.assertEqual(onward(one, (0, (0, 1))), (1, (nested(200), 1)))
        self.assertEqual(seen(one, ["none"]), [("ask", "get", ()), ("end", "end", (nested(200),))])
        self.assertEqual([is_run(one, ["none"]), frame_after(one, ["one"])], [True, (2, (2, 1))])
        self.check(onward, one, (0, (0, ("c",))))

    def test_201(self):
        one = growing(201)
        for call, more in [(onward, ((0, (0, 1)),)), (head, ((0, (0, 1)),)), (answered, ((0, (0, 1)), "none", 5)),
                           (answered, ((0, (0, 1)), "nope", 5)), (seen, ([],)), (seen, (["none"],)),
                           (seen, (["nope"],)),
                           (frame_after, (["none"],)), (is_run, ([],)), (is_run, (["nope"],))]:
            self.check(call, one, *more)
        self.assertEqual(frame_after(one, []), (0, (0, 1)))
        self.assertIs(is_run(one, ["none", 0]), False)

    def test_all_values_together_are_counted(self):
        rows = [("set", ((0, nested(100)), (1, nested(101))), 1), ("end", "end", ())]
        self.check(onward, Code(GET, 2, 2, rows), (0, (0, 1)))
        rows[0] = ("set", ((0, nested(100)), (1, nested(100))), 1)
        self.assertEqual(onward(Code(GET, 2, 2, rows), (0, (0, 1)))[0], 1)
        self.check(onward, Code(GET, 3, 2, rows), (0, (0, 1, ("nil",))))

    def test_on_the_way(self):
        rows = [("set", ((0, nested(201)),), 1), ("set", ((0, 1),), 2), ("end", "end", ())]
        one = Code(GET, 2, 2, rows)
        self.check(head, one, (0, (0, 1)))
        self.assertEqual(head(one, (1, (nested(201), 1))), ("end", "end", ()))
        self.check(answered, one, (0, (0, 1)), "none", 0)

    def test_a_frame_handed_in_is_behind_no_statement(self):
        one, great = growing(3), (1, (nested(300), 1))
        self.assertEqual(onward(one, great), great)
        self.assertEqual(head(one, great), ("ask", "get", ()))
        self.assertEqual(head(one, (2, great[1])), ("end", "end", (nested(300),)))
        self.assertEqual(answered(one, great, "one", 5), (2, (5, 1)))
        self.check(answered, one, great, "none", 5)
        self.assertEqual(outcome_of(answered, one, great, "nope", 5), (Unfit, {}))

    def test_what_comes_first_is_raised(self):
        ways = (("none", (), 1), ("one", (0,), 0), ("two", (0, 1), 0))
        rows = [("ask", "get", (), ways), ("set", ((0, nested(201)),), 2), ("end", "end", (0,))]
        one = Code(GET, 2, 2, rows)
        self.assertEqual(outcome_of(seen, one, ["nope", "none"]), (Broken, {"at": 0}))
        self.check(seen, one, ["none"])
        self.check(seen, one, ["none", "nope"])
        self.assertEqual(frame_after(one, ["none"]), (1, (0, 1)))
        self.check(frame_after, one, ["none", "nope"])
        self.check(is_run, one, ["none"])
        self.check(is_run, one, ["none", "nope"])
        self.assertIs(is_run(one, ["nope", "none"]), False)
        self.assertIs(is_run(one, ["none", None]), False)

    def test_values_that_double(self):
        rows = [("set", ((0, ("f", 0, 0)),), 1), ("ask", "put", (0, 0), (("done", (), 0),))]
        one = Code(GET, 1, 1, rows)
        self.assertEqual(len(seen(one, ["done"] * 6)), 7)
        self.check(seen, one, ["done"] * 7)
        self.assertEqual(frame_after(one, ["done"] * 7)[0], 0)
        self.check(frame_after, one, ["done"] * 8)
        self.check(is_run, one, ["done"] * 7)


if __name__ == "__main__":
    unittest.main()
