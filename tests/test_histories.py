import unittest

from framemoves.codes import Code
from framemoves.errors import BadMove, Broken, TooMany
from framemoves.histories import frame_of, is_history, shown
from framemoves.moves import is_right, recipe_for
from framemoves.recipes import Recipe
from framemoves.runs import is_run, seen
from framemoves.worlds import World
from framemoves.yards import Yard
from plain import NAMES, WORLDS, histories_of, plain_history, plain_shown, random_code, varied
from support import Pleasing, any_values, in_lists, nested, outcome_of, random_term, seeded, unchanged

WORLD = World({"less": (2, {"yes": 0, "no": 0}), "tell": (1, {"done": 0})})
PLAIN = Code(WORLD, 3, 2, [("ask", "less", (0, 1), (("no", (), 3), ("yes", (), 1))), ("set", ((2, ("twice", 1)),), 2),
                           ("ask", "tell", (2,), (("done", (), 0),)), ("end", "bye", ())])
FAST = Code(WORLD, 3, 2, [("set", ((2, ("twice", 1)),), 1), ("ask", "less", (0, 1), (("no", (), 3), ("yes", (), 2))),
                          ("ask", "tell", (2,), (("done", (), 1),)), ("end", "bye", ())])
# Index 0 and 1 stand at one place; 2 goes back on its own.
YARD = Yard(PLAIN, [PLAIN, FAST], [(0, 0, 1, 1, Recipe(3, [0, 1, ("twice", 1)]), "may"),
                                   (0, 0, 1, 0, Recipe(3, [0, 1, 2]), "may"),
                                   (1, 2, 0, 2, Recipe.keeping(3), "must"),
                                   (0, 3, 1, 3, Recipe.keeping(3), "may")], begins=[1, 0])
GET = WORLDS[1]
GO = WORLDS[2]
NIL = ("nil",)
TWICE = ("twice", 1)


def is_right_history(yard, history):
    """Whether the outcomes of a history are a run of the true code, and what is shown is what this run shows."""
    outcomes = [item for item in history if isinstance(item, str) and item != ""]
    return is_run(yard.true, outcomes) and shown(yard, history) == seen(yard.true, outcomes)


class FrameOfTest(unittest.TestCase):
    def test_sets_outcomes_and_moves(self):
        for history, frame in [([0], (0, 0, (0, 1, NIL))), ([1], (1, 0, (0, 1, NIL))), ([1, ""], (1, 1, (0, 1, TWICE))),
                               ([0, "yes"], (0, 1, (0, 1, NIL))), ([0, "yes", ""], (0, 2, (0, 1, TWICE))),
                               ([0, 0], (1, 1, (0, 1, TWICE))), ([0, 1], (1, 0, (0, 1, NIL))),
                               ([0, 0, "yes"], (1, 2, (0, 1, TWICE))), ([0, 0, "yes", 2], (0, 2, (0, 1, TWICE))),
                               ([0, 0, "yes", 2, "done", 1, "", "no"], (1, 3, (0, 1, TWICE))),
                               ([0, "no", 3], (1, 3, (0, 1, NIL)))]:
            self.assertEqual(unchanged(self, frame_of, YARD, history), frame)
            self.assertIs(unchanged(self, is_history, YARD, history), True)

    def test_broken(self):
        for history, at in [([], 0), ([2], 0), ([-1], 0), ([""], 0), (["yes"], 0), ([0, ""], 1), ([0, "done"], 1), ([0, 2], 1),
                            ([0, 3], 1), ([0, 4], 1), ([0, -1], 1), ([0, 10 ** 39], 1), ([0, "yes", "yes"], 2),
                            ([0, "yes", 0], 2), ([0, 0, ""], 2), ([0, 0, "yes", "done"], 3), ([0, 0, "yes", ""], 3),
                            ([0, 0, "yes", 0], 3), ([0, "no", "no"], 2), ([0, "no", ""], 2), ([0, "no", 3, 3], 3),
                            ([1, "yes"], 1), ([0, "yes-"], 1), ([0, "x" * 60], 1), ([5, None], 0), ([0, "yes", "", "", ""], 3)]:
            for call in (frame_of, shown):
                self.assertEqual(unchanged(self, call, YARD, history), (Broken, {"at": at}))
            self.assertIs(is_history(YARD, history), False)

    def test_only_told_versions_begin(self):
        for begins, rows in [((0,), [0]), ((1,), [1]), ((0, 1), [0, 1]), ((2, 0), [0, 2])]:
            yard = Yard(PLAIN, [PLAIN, FAST, PLAIN], [], begins=begins)
            self.assertEqual([number for number in range(-1, 4) if is_history(yard, [number])], rows)

    def test_unknowns_are_numbered_on(self):
        rows = [("ask", "get", (), (("one", (1,), 1), ("two", (0, 2), 1))), ("ask", "put", (1, 2), (("done", (), 0),))]
        one = Code(GET, 3, 1, rows)
        swap = Recipe(3, [1, 2, 0])
        yard = Yard(one, [one, one], [(0, 1, 1, 1, swap, "may"), (1, 0, 0, 0, Recipe.keeping(3), "must")])
        history = [0, "two", 0, "done", 1, "one", "done", "two"]
        self.assertEqual(frame_of(yard, history), (0, 1, (4, 3, 5)))
        self.assertEqual(shown(yard, history), [("ask", "get", ()), ("ask", "put", (2, 1)), ("ask", "get", ()),
                                                ("ask", "put", (3, 1)), ("ask", "get", ()), ("ask", "put", (3, 5))])
        self.assertEqual(frame_of(yard, history[:3]), (1, 1, (NIL, 2, 1)))

    def test_moves_between_codes_of_other_sizes(self):
        small = Code(WORLD, 2, 2, [("end", "bye", (0, 1))])
        yard = Yard(PLAIN, [PLAIN, small], [(0, 3, 1, 0, Recipe(3, [("f", 2), 0]), "may"), (1, 0, 0, 1, Recipe(2, [0, 0, 1]), "may")])
        self.assertEqual(frame_of(yard, [0, "no", 0]), (1, 0, (("f", NIL), 0)))
        self.assertEqual(frame_of(yard, [0, "no", 0, 1, ""]), (0, 2, (("f", NIL), ("f", NIL), ("twice", ("f", NIL)))))

    def test_history_stays_as_it_is(self):
        history = [0, 0, "yes", 2]
        for call in (frame_of, shown, is_history):
            call(YARD, history)
        self.assertEqual(history, [0, 0, "yes", 2])


class ShownTest(unittest.TestCase):
    def test_what_is_seen_next(self):
        less, told = ("ask", "less", (0, 1)), ("ask", "tell", (TWICE,))
        for history, rows in [([0], [less]), ([1], [less]), ([0, 0], [less]), ([0, 1, ""], [less]), ([0, "yes"], [less, told]),
                              ([0, 0, "yes"], [less, told]), ([0, 0, "yes", 2], [less, told]),
                              ([0, 0, "yes", 2, "done"], [less, told, less]), ([0, "no"], [less, ("end", "bye", ())]),
                              ([0, "no", 3], [less, ("end", "bye", ())])]:
            self.assertEqual(unchanged(self, shown, YARD, history), rows)

    def test_may_moves_are_not_made(self):
        yard = Yard(PLAIN, [PLAIN, FAST], [(0, 0, 0, 3, Recipe.keeping(3), "may"), (0, 1, 0, 3, Recipe.keeping(3), "may")])
        self.assertEqual(shown(yard, [0]), [("ask", "less", (0, 1))])
        self.assertEqual(shown(yard, [0, "yes"])[1], ("ask", "tell", (TWICE,)))
        self.assertEqual(shown(yard, [0, "yes", 1])[1], ("end", "bye", ()))

    def test_must_moves_go_ahead_of_statements(self):
        for place, rows in [(0, [("end", "bye", ())]), (3, [("ask", "less", (0, 1))])]:
            yard = Yard(PLAIN, [PLAIN], [(0, place, 0, 3 - place, Recipe.keeping(3), "must")])
            self.assertEqual(shown(yard, [0]), rows)
        self.assertEqual(outcome_of(frame_of, Yard(PLAIN, [PLAIN], [(0, 0, 0, 3, Recipe.keeping(3), "must")]), [0, "yes"]),
                         (Broken, {"at": 1}))

    def test_for_ever(self):
        ring = Code(GO, 2, 1, [("set", ((0, ("g", 0, 0)),), 1), ("set", (), 0), ("end", "out", (0,))])
        self.assertEqual(shown(Yard(ring, [ring], []), [0]), [("silent",)])
        keep = Recipe.keeping(2)
        moves = [(0, 1, 1, 2, keep, "must"), (1, 2, 0, 0, Recipe(2, [("g", 0, 0), 1]), "must")]
        self.assertEqual(shown(Yard(ring, [ring, ring], moves), [0]), [("silent",)])
        self.assertEqual(shown(Yard(ring, [ring, ring], moves[:1]), [0])[-1][0], "end")
        self.assertEqual(shown(Yard(ring, [ring], [(0, 2, 0, 2, keep, "must"), (0, 1, 0, 2, keep, "must")]), [0]), [("silent",)])
        for steps in range(7):
            history = [0, "", 0, 1, "", 0, 1][:steps + 1]
            self.assertEqual(shown(Yard(ring, [ring, ring], moves), history), [("silent",)])
        ask = Code(GO, 2, 1, [("ask", "go", (), (("a", (), 1), ("b", (), 0), ("c", (), 0))), ("set", (), 1)])
        self.assertEqual(shown(Yard(ask, [ask], []), [0, "b", "a", "", ""]), [("ask", "go", ()), ("ask", "go", ()), ("silent",)])

    def test_new_lists_are_returned(self):
        shown(YARD, [0, "no"]).clear()
        self.assertEqual(len(shown(YARD, [0, "no"])), 2)

    def test_yards_by_turns(self):
        other = Yard(PLAIN, [PLAIN], [], begins=[0])
        for _ in range(3):
            self.assertEqual([shown(YARD, [0, 0]), shown(other, [0])], [[("ask", "less", (0, 1))]] * 2)
            self.assertEqual(outcome_of(shown, other, [0, 0]), (Broken, {"at": 1}))


class TooManyTest(unittest.TestCase):
    def yard(self, many):
        """A yard with a set, a may move and a must move that make values of so many operations, each of its own place."""
        term = nested(many)
        rows = [("ask", "go", (), (("a", (), 1), ("b", (), 2), ("c", (), 3))), ("set", ((0, term),), 4), ("end", "out", (0,)),
                ("end", "bye", (0,)), ("set", ((0, 1), (1, 1)), 5), ("end", "all", (0,))]
        code = Code(GO, 2, 2, rows)
        great = Recipe(2, [term, 1])
        return Yard(code, [code, code], [(0, 2, 1, 2, great, "may"), (0, 3, 1, 3, great, "must")])

    def test_exactly_200(self):
        yard, term = self.yard(200), nested(200)
        for history, frame in [([0, "a", ""], (0, 4, (term, 1))), ([0, "b", 0], (1, 2, (term, 1))), ([0, "c", 1], (1, 3, (term, 1)))]:
            self.assertEqual(frame_of(yard, history), frame)
            self.assertIs(is_history(yard, history), True)
        self.assertEqual(shown(yard, [0, "a"])[-1], ("end", "all", (1,)))
        self.assertEqual(shown(yard, [0, "c"])[-1], ("end", "bye", (term,)))

    def test_201(self):
        yard, error = self.yard(201), (TooMany, {"limit": 200})
        for history in ([0, "a", ""], [0, "b", 0], [0, "c", 1], [0, "a", "", "x"], [0, "b", 0, ""], [0, "c", 1, 1]):
            for call in (frame_of, is_history, shown):
                self.assertEqual(unchanged(self, call, yard, history), error)
        for history, error_of_shown in [([0, "a"], error), ([0, "c"], error), ([0, "b"], None), ([0], None)]:
            self.assertEqual(outcome_of(shown, yard, history) == error, error_of_shown is not None)
            self.assertIsInstance(frame_of(yard, history), tuple)
            self.assertIs(is_history(yard, history), True)

    def test_what_comes_first_is_raised(self):
        yard = self.yard(201)
        for call in (frame_of, shown):
            self.assertEqual(outcome_of(call, yard, [0, "x", "a", ""]), (Broken, {"at": 1}))
            self.assertEqual(outcome_of(call, yard, [0, "a", "a"]), (Broken, {"at": 2}))
            self.assertEqual(outcome_of(call, yard, [0, "a", "", "a"]), (TooMany, {"limit": 200}))
        self.assertIs(is_history(yard, [0, "a", "x"]), False)
        self.assertIs(is_history(yard, [0, "a", "", None]), False)
        self.assertEqual(outcome_of(is_history, yard, [0, "a", "", "x"]), (TooMany, {"limit": 200}))

    def test_nothing_is_done_if_it_goes_on_for_ever(self):
        ring = Code(GO, 1, 1, [("set", ((0, nested(201)),), 1), ("set", (), 1)])
        yard = Yard(ring, [ring], [])
        self.assertEqual(shown(yard, [0]), [("silent",)])
        self.assertEqual(outcome_of(shown, yard, [0, ""]), (TooMany, {"limit": 200}))

    def test_values_that_double(self):
        code = Code(GO, 1, 1, [("set", ((0, ("g", 0, 0)),), 0)])
        yard = Yard(code, [code], [])
        self.assertEqual([is_history(yard, [0] + [""] * 7), shown(yard, [0] + [""] * 7)], [True, [("silent",)]])
        self.assertEqual(outcome_of(is_history, yard, [0] + [""] * 8), (TooMany, {"limit": 200}))


class IsHistoryTest(unittest.TestCase):
    def test_any_value(self):
        for thing in any_values() + [(0,), 0, {0: 0}, [[0]], [True], [False], [0, True], [0, None], [0, ("yes",)], [0, b"yes"],
                                     [0, Pleasing()], [Pleasing()], [0, "no", Pleasing()], in_lists(30), [0] * 9000, "0",
                                     [0, "yes", "", "done"] * 4000, YARD, [0, 1j]]:
            self.assertIs(is_history(YARD, thing), False, thing)

    def test_long_ones(self):
        history = [0] + ["yes", "", "done"] * 5000
        self.assertIs(is_history(YARD, history), True)
        self.assertEqual(frame_of(YARD, history), (0, 0, (0, 1, TWICE)))
        self.assertEqual(len(shown(YARD, history)), 10001)
        turn = Code(GO, 2, 2, [("set", ((0, 1), (1, 0)), 0)])
        self.assertIs(is_history(Yard(turn, [turn], []), [0] + [""] * 15000), True)


class RightTest(unittest.TestCase):
    def test_right_moves_show_what_the_true_code_shows(self):
        self.assertIs(is_right(PLAIN, 0, FAST, 1, YARD.moves()[0][4]), True)
        for history in histories_of(YARD, 7):
            self.assertIs(is_right_history(YARD, history), True, history)

    def test_a_wrong_move_does_not(self):
        yard = Yard(PLAIN, [PLAIN, FAST], [(0, 0, 1, 1, Recipe.keeping(3), "may")])
        wrong = [history for history in histories_of(yard, 5) if not is_right_history(yard, history)]
        self.assertEqual(wrong[0], [0, 0, "yes"])
        other = Yard(PLAIN, [PLAIN, FAST], [(0, 3, 1, 2, Recipe.keeping(3), "must")])
        self.assertEqual([history for history in histories_of(other, 2) if not is_right_history(other, history)], [[0, "no"]])

    def test_two_right_moves_behind_one_another_may_be_wrong(self):
        # Each of them is right behind the runs of its own code alone, in which both variables are equal.
        rows = [("set", ((1, 0),), 1), ("ask", "go", (), (("a", (), 1), ("b", (), 2), ("c", (), 3))), ("end", "out", (0,)),
                ("end", "bye", (0,))]
        one = Code(GO, 2, 1, rows)
        other = Code(GO, 2, 1, rows[:2] + [("end", "out", (1,)), ("end", "bye", (1,))])
        there, back = Recipe(2, [("c",), 0]), Recipe(2, [0, ("c",)])
        self.assertEqual([is_right(one, 1, other, 1, there), is_right(other, 1, one, 1, back)], [True, True])
        yard = Yard(one, [one, other], [(0, 1, 1, 1, there, "may"), (1, 1, 0, 1, back, "may")])
        self.assertEqual([is_right_history(yard, [0, "", 0, "b"]), is_right_history(yard, [0, "", 0, 1, "b"])], [True, False])
        good = recipe_for(other, 1, one, 1)[1]
        self.assertIs(is_right_history(yard.with_move((1, 1, 0, 1, Recipe(2, [1, 1]), "may")), [0, "", 0, 2, "b"]), True)
        self.assertIs(is_right(other, 1, one, 1, good), True)

    def test_must_moves_beside_other_ones_cannot_stand(self):
        self.assertEqual(outcome_of(YARD.with_move, (1, 2, 0, 2, Recipe.keeping(3), "may")), (BadMove, {"at": 4}))


class SecondTest(unittest.TestCase):
    def test_as_told_a_second_time(self):
        rng = seeded(72)
        kinds = {}
        for _ in range(250):
            code = random_code(rng, rng.choice(WORLDS), rng.randrange(2, 4), 2, rng.randrange(1, 4), rng.choice([1, 2, 4]))
            versions = [code] + [varied(rng, code) for _ in range(rng.randrange(3))]
            yard = Yard(code, versions, [], begins=[rng.randrange(len(versions)) for _ in range(2)])
            for _ in range(rng.randrange(6)):
                ends = [(at, rng.randrange(len(versions[at]))) for at in [rng.randrange(len(versions)) for _ in range(2)]]
                terms = [random_term(rng, rng.choice([1, 1, 3]), range(code.variables), NAMES) for _ in range(code.variables)]
                told = outcome_of(yard.with_move, ends[0] + ends[1] + (Recipe(code.variables, terms), rng.choice(["may", "must"])))
                yard = told if isinstance(told, Yard) else yard
            for history in rng.sample(histories_of(yard, 4), 3) * 2 if len(histories_of(yard, 4)) > 3 else [[0]]:
                if rng.random() < 0.4:
                    at = rng.randrange(len(history) + 1)
                    history = history[:at] + [rng.choice(["", 0, 1, 2, "no", "a", "done", -1])] + history[at:]
                told = outcome_of(plain_history, yard, history)
                found = outcome_of(frame_of, yard, history)
                self.assertEqual(found, told if told[0] in (Broken, TooMany) else told[:3])
                self.assertEqual(outcome_of(is_history, yard, history), told if told[0] == TooMany else told[0] != Broken)
                self.assertEqual(outcome_of(shown, yard, history), outcome_of(plain_shown, yard, history))
                kinds[told[0] if told[0] in (Broken, TooMany) else "frame"] = True
        self.assertGreaterEqual(set(kinds), {Broken, "frame"})


if __name__ == "__main__":
    unittest.main()
