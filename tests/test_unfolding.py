import unittest
import unittest.mock

from framemoves.codes import Code
from framemoves.errors import NoFunction, TooMany, Unfit
from framemoves.runs import is_run, seen
from framemoves.unfolding import Unfolding, unfolded
from framemoves.units import Unit
from framemoves.worlds import World
from plain import WORLDS
from plain_units import plain_seen, plain_stacks, random_unit
from support import any_values, outcome_of, seeded, unchanged

GO = WORLDS[2]
NIL = ("nil",)
MAIN = (1, 1, 0, [("call", "twice", (0,), (0,), 1), ("end", "out", (0,))])
TWICE = (2, 1, 1, [("set", ((1, ("f", 0)),), 1), ("back", (("f", 1),))])
UNIT = Unit(World({}), {"main": MAIN, "twice": TWICE})
# Functions of unequal numbers of variables at each depth; the place 3 of top is led to by nothing.
TOP = (2, 1, 2, [("ask", "go", (), (("c", (), 1), ("a", (), 2), ("b", (), 4))), ("call", "wide", (0, ("c",)), (1, 0), 4),
                 ("call", "slim", (1,), (), 2), ("set", (), 0), ("back", (0, ("g", 0, 1)))])
WIDE = (4, 2, 2, [("call", "low", (), (3,), 1), ("set", ((0, 3), (3, 0)), 2), ("back", (("f", 0), 1))])
SLIM = (1, 1, 0, [("call", "low", (), (0,), 1), ("ask", "go", (), (("a", (), 2), ("b", (), 2), ("c", (), 3))), ("end", "bye", (0,)),
                  ("back", ())])
LOW = (1, 0, 1, [("back", (("d",),))])
DEEP = Unit(GO, {"wide": WIDE, "low": LOW, "top": TOP, "slim": SLIM})


def chain_unit(many):
    """A unit whose function main has so many stacks."""
    return Unit(GO, {"main": (0, 0, 0, [("set", (), at + 1) for at in range(many - 2)] + [("call", "low", (), (), 0), ("set", (), 0)]),
                     "low": (0, 0, 0, [("back", ())])})


class ExampleTest(unittest.TestCase):
    def test_as_it_stands(self):
        self.assertEqual(unfolded(UNIT, "main").stacks(), [
            (('main', 0),), (('main', 0), ('twice', 0)), (('main', 0), ('twice', 1)), (('main', 1),)])
        self.assertEqual(unfolded(UNIT, "main").frames_of((2, (0, 0, ("f", 0)))), [('main', 0, (0,)), ('twice', 1, (0, ('f', 0)))])

    def test_its_code(self):
        self.assertEqual(unfolded(UNIT, "main").code, Code(World({}), 3, 1, [
            ("set", ((1, 0), (2, NIL)), 1), ("set", ((2, ("f", 1)),), 2), ("set", ((0, ("f", 2)), (1, NIL), (2, NIL)), 3),
            ("end", "out", (0,))]))
        self.assertEqual(seen(unfolded(UNIT, "main").code, []), [("end", "out", (("f", ("f", 0)),))])

    def test_a_back_of_the_outermost_one(self):
        told = unfolded(UNIT, "twice")
        self.assertEqual([told.outermost, told.stacks()], ["twice", [(("twice", 0),), (("twice", 1),)]])
        self.assertEqual(told.code, Code(World({}), 2, 1, [("set", ((1, ("f", 0)),), 1), ("end", "back", (("f", 1),))]))


class StacksTest(unittest.TestCase):
    def test_in_the_order_in_which_they_are_met(self):
        top = [(("top", at),) for at in range(5)]
        wide = [(("top", 1), ("wide", at)) for at in range(3)]
        slim = [(("top", 2), ("slim", at)) for at in range(4)]
        self.assertEqual(unchanged(self, unfolded(DEEP, "top").stacks), [
            top[0], top[2], top[4], top[1], slim[0], wide[0], slim[0] + (("low", 0),), wide[0] + (("low", 0),), slim[1], wide[1],
            slim[2], slim[3], wide[2]])

    def test_places_of_stacks(self):
        told = unfolded(DEEP, "top")
        for place, stack in enumerate(told.stacks()):
            self.assertEqual(unchanged(self, told.place_of, stack), place)
        for stack in [(), (("top", 3),), (("wide", 0),), (("top", 0), ("wide", 0)), (("top", 1), ("slim", 0)), (("top", 1), ("low", 0)),
                      (("top", 1), ("wide", 0), ("low", 1)), (("none", 0),), (("top", 99),), (("top", -1),)]:
            self.assertIsNone(unchanged(self, told.place_of, stack))

    def test_sixty_of_them(self):
        for many in (59, 60):
            self.assertEqual(len(unfolded(chain_unit(many), "main").stacks()), many)
            code = unfolded(chain_unit(many), "main").code
            self.assertEqual((len(code), code.variables), (many, 0))
        for many in (61, 62, 300):
            self.assertEqual(unchanged(self, unfolded, chain_unit(many), "main"), (TooMany, {"limit": 60}))
        self.assertEqual(len(unfolded(chain_unit(300), "low").stacks()), 1)
        # Stacks that no statement leads to are not met.
        rows = [("end", "out", ())] + [("set", (), at) for at in range(70)]
        self.assertEqual(unfolded(Unit(GO, {"main": (0, 0, 0, rows)}), "main").stacks(), [(("main", 0),)])

    def test_many_calls(self):
        low = (0, 0, 0, [("set", (), at + 1) for at in range(9)] + [("back", ())])
        for count, many in [(5, 56), (6, None)]:
            rows = [("call", "low", (), (), at + 1) for at in range(count)] + [("back", ())]
            told = outcome_of(unfolded, Unit(GO, {"main": (0, 0, 0, rows), "low": low}), "main")
            if many:
                self.assertEqual(len(told.stacks()), many)
            else:
                self.assertEqual(told, (TooMany, {"limit": 60}))

    def test_errors(self):
        for name in ("none", "", "Main"):
            self.assertEqual(unchanged(self, unfolded, chain_unit(61), name), (NoFunction, {"name": name}))
            self.assertEqual(unchanged(self, unfolded, UNIT, name), (NoFunction, {"name": name}))


class CodeTest(unittest.TestCase):
    def test_variables_of_all_depths(self):
        # Two of top, four of wide beside the one of slim, one of low.
        told = unfolded(DEEP, "top")
        code = told.code
        self.assertEqual([code.variables, code.given, code.world, told.outermost], [7, 1, GO, "top"])
        self.assertEqual(code.statement(0), ("ask", "go", (), (("a", (), 1), ("b", (), 2), ("c", (), 3))))
        self.assertEqual(code.statement(1), ("set", ((2, 1), (3, NIL), (4, NIL), (5, NIL)), 4))
        self.assertEqual(code.statement(2), ("end", "back", (0, ("g", 0, 1))))
        self.assertEqual(code.statement(3), ("set", ((2, 0), (3, ("c",)), (4, NIL), (5, NIL)), 5))
        self.assertEqual(code.statement(6), ("set", ((2, ("d",)), (6, NIL)), 8))
        self.assertEqual(code.statement(7), ("set", ((5, ("d",)), (6, NIL)), 9))
        self.assertEqual(code.statement(11), ("set", ((2, NIL), (3, NIL), (4, NIL), (5, NIL)), 1))
        self.assertEqual(code.statement(12), ("set", ((0, 3), (1, ("f", 2)), (2, NIL), (3, NIL), (4, NIL), (5, NIL)), 2))
        self.assertEqual(code.statement(10), ("end", "bye", (2,)))

    def test_only_what_is_met_is_wide(self):
        rows = [("set", (), 2), ("call", "wide", (), (), 0), ("call", "slim", (), (), 0)]
        functions = {"main": (1, 1, 0, rows), "slim": (2, 0, 0, [("back", ())]), "wide": (8, 0, 0, [("back", ())])}
        self.assertEqual(unfolded(Unit(GO, functions), "main").code.variables, 3)

    def test_three_of_eight_variables(self):
        functions = {"a": (8, 8, 2, [("call", "b", tuple(range(8)), (7, 0), 1), ("back", (0, 7))]),
                     "b": (8, 8, 2, [("call", "c", tuple(range(8)), (7, 0), 1), ("back", (0, 7))]), "c": (8, 8, 2, [("back", (3, 4))])}
        told = unfolded(Unit(GO, functions), "a")
        self.assertEqual([told.code.variables, told.code.given], [24, 8])
        self.assertEqual(seen(told.code, []), [("end", "back", (3, 4))])

    def test_it_shows_what_the_functions_show(self):
        rng = seeded(81)
        count = 0
        for _ in range(250):
            unit = random_unit(rng)
            for name in unit.functions():
                told = outcome_of(unfolded, unit, name)
                stacks = plain_stacks(unit, name)
                if len(stacks) > 60:
                    self.assertEqual(told, (TooMany, {"limit": 60}))
                    continue
                self.assertEqual(told.stacks(), stacks)
                count += self.check_runs(unit, told)
        self.assertGreater(count, 1000)

    def check_runs(self, unit, told):
        """That what is seen of the code is what is seen of the functions, in runs of at most four outcomes."""
        runs, count = [[]], 0
        for outcomes in runs:
            found = plain_seen(unit, told.outermost, outcomes)
            is_there = outcome_of(is_run, told.code, outcomes)
            self.assertIn(is_there, (found is not None, (TooMany, {"limit": 200})))
            if is_there is True:
                count += 1
                shown, frames = found
                self.assertEqual(seen(told.code, outcomes), shown)
                frame = told.frame_of(frames)
                self.assertEqual(told.frames_of(frame), frames)
                if len(outcomes) < 4:
                    runs.extend(outcomes + [outcome] for act in unit.world.acts() for outcome in unit.world.outcomes(act))
        return count


class FramesTest(unittest.TestCase):
    def test_there_and_back(self):
        told = unfolded(DEEP, "top")
        values = tuple(range(7))
        for place, frames in [(0, [("top", 0, (0, 1))]), (4, [("top", 2, (0, 1)), ("slim", 0, (2,))]),
                              (5, [("top", 1, (0, 1)), ("wide", 0, (2, 3, 4, 5))]),
                              (6, [("top", 2, (0, 1)), ("slim", 0, (2,)), ("low", 0, (6,))])]:
            self.assertEqual(unchanged(self, told.frames_of, (place, values)), frames)
            kept = [frame for _, _, some in frames for frame in some]
            self.assertEqual(unchanged(self, told.frame_of, frames),
                             (place, tuple(value if value in kept else NIL for value in values)))

    def test_unfit(self):
        told = unfolded(DEEP, "top")
        for frames in [[], [("top", 3, (0, 1))], [("wide", 0, (0, 1, 2, 3))], [("top", 0, (0, 1)), ("wide", 0, (0, 1, 2, 3))],
                       [("top", 0, (0,))], [("top", 0, (0, 1, 2))], [("top", 0, ())], [("top", 2, (0, 1)), ("slim", 0, (2, 3))],
                       [("top", 2, (0, 1)), ("slim", 0, ())], [("top", 2, (0, 1)), ("slim", 0, (2,)), ("low", 0, (6, 7))],
                       [("top", 2, (0, 1, 2)), ("slim", 0, (2,))], [("none", 0, ())], [("top", 9, (0, 1))]]:
            self.assertEqual(unchanged(self, told.frame_of, frames), (Unfit, {}))

    def test_what_is_returned_is_new(self):
        told = unfolded(DEEP, "top")
        self.assertIsInstance(told, Unfolding)
        before = [told.stacks(), told.frames_of((4, tuple(range(7)))), told.code]
        told.stacks().clear()
        told.frames_of((4, tuple(range(7)))).clear()
        told.code.statements().clear()
        self.assertEqual([told.stacks(), told.frames_of((4, tuple(range(7)))), told.code], before)
        for name in ("code", "outermost"):
            with self.assertRaises(AttributeError):
                setattr(told, name, 0)

    def test_by_turns(self):
        one, other = unfolded(DEEP, "top"), unfolded(UNIT, "main")
        for _ in range(3):
            self.assertEqual([len(one.stacks()), len(other.stacks()), one.place_of((("main", 0),)), other.place_of((("main", 0),))],
                             [13, 4, None, 0])

    def test_equal(self):
        one = unfolded(DEEP, "top")
        self.assertTrue(one == unfolded(DEEP, "top") and not one != unfolded(DEEP, "top"))
        for thing in any_values() + [unfolded(DEEP, "wide"), unfolded(Unit(GO, {"top": (0, 0, 0, [("back", ())])}), "top"), unfolded(UNIT, "main"), DEEP, one.code, unittest.mock.ANY]:
            self.assertIs(one == thing, False)
            self.assertIs(one != thing, True)


if __name__ == "__main__":
    unittest.main()
