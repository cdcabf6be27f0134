import unittest
import unittest.mock

from framemoves.codes import Code
from framemoves.errors import BadMove, Unlike, Wrong
from framemoves.recipes import Recipe
from framemoves.worlds import World
from framemoves.yards import Yard
from plain import WORLDS
from support import Pleasing, any_values, in_lists, outcome_of, unchanged

WORLD = World({"less": (2, {"yes": 0, "no": 0}), "tell": (1, {"done": 0})})
PLAIN = Code(WORLD, 3, 2, [("ask", "less", (0, 1), (("no", (), 3), ("yes", (), 1))), ("set", ((2, ("twice", 1)),), 2),
                           ("ask", "tell", (2,), (("done", (), 0),)), ("end", "bye", ())])
FAST = Code(WORLD, 4, 2, [("set", ((2, ("twice", 1)),), 1), ("ask", "less", (0, 1), (("no", (), 3), ("yes", (), 2))),
                          ("ask", "tell", (2,), (("done", (), 1),)), ("end", "bye", ()), ("end", "bye", ())])
THERE = Recipe(3, [0, 1, ("twice", 1), 0])
BACK = Recipe(4, [0, 1, 2])
MAY = (0, 0, 1, 1, THERE, "may")
MUST = (1, 2, 0, 2, BACK, "must")


class WrongTest(unittest.TestCase):
    def check(self, place, *things, **more):
        with self.assertRaises(Wrong) as caught:
            Yard(*things, **more)
        self.assertEqual(vars(caught.exception), {"place": place})

    def test_true(self):
        for thing in any_values() + [[PLAIN], (PLAIN,), WORLD, Code, Yard(PLAIN, [PLAIN], [])]:
            self.check(0, thing, [PLAIN], [])

    def test_versions(self):
        for thing in any_values() + [(PLAIN,), PLAIN, [], [PLAIN] * 4, [PLAIN, None], [PLAIN, Code], [[PLAIN]], {0: PLAIN},
                                     in_lists(30, PLAIN), [PLAIN] * 9000, [PLAIN, Pleasing()]]:
            self.check(1, PLAIN, thing, [])

    def test_moves(self):
        for thing in any_values() + [(MAY,), (), MAY, {0: MAY}, {MAY[:4]}]:
            if not isinstance(thing, list):
                self.check(2, PLAIN, [PLAIN, FAST], thing)

    def test_begins(self):
        for thing in any_values() + [(), [], 0, {0: 0}, (0, 2), [2], [-1], [True], (False,), [0, None], "0", (0, "0"), [[0]],
                                     in_lists(30), [0] * 9000 + [3], [Pleasing()], range(1), {0}, (0, 1j)]:
            self.check(3, PLAIN, [PLAIN, FAST], [], begins=thing)

    def test_the_first_one_is_told(self):
        self.check(0, None, None, None, begins=None)
        self.check(1, PLAIN, None, None, begins=None)
        self.check(2, PLAIN, [PLAIN], None, begins=None)
        self.check(3, PLAIN, [Code(WORLDS[2], 0, 0, [("end", "out", ())])], [None], begins=())
        self.check(3, PLAIN, [PLAIN], [None], begins=(1,))


class UnlikeTest(unittest.TestCase):
    def test_worlds_and_given(self):
        for other in [Code(WORLDS[2], 3, 2, [("end", "out", ())]), Code(WORLD, 3, 1, PLAIN.statements()),
                      Code(WORLD, 3, 3, PLAIN.statements())]:
            for things in [(other, [PLAIN]), (PLAIN, [other]), (PLAIN, [PLAIN, FAST, other]), (PLAIN, [other, PLAIN])]:
                self.assertEqual(unchanged(self, Yard, *things, [None]), (Unlike, {}))
        self.assertIsInstance(Yard(other, [other], []), Yard)

    def test_equal_worlds_may_be_two(self):
        world = World({"tell": (1, {"done": 0}), "less": (2, {"no": 0, "yes": 0})})
        other = Code(world, 1, 1, [("end", "out", (0,))])
        self.assertEqual(Yard(Code(WORLD, 2, 1, [("end", "out", (0,))]), [other], []).versions(), [other])


class MovesTest(unittest.TestCase):
    def check(self, at, moves, versions=(PLAIN, FAST)):
        self.assertEqual(unchanged(self, Yard, PLAIN, list(versions), moves), (BadMove, {"at": at}))
        if at == len(moves) - 1:
            yard = Yard(PLAIN, list(versions), moves[:-1])
            self.assertEqual(unchanged(self, yard.with_move, moves[-1]), (BadMove, {"at": at}))

    def test_any_value(self):
        bad = any_values() + [list(MAY), MAY[:5], MAY + (0,), (), in_lists(30), Pleasing(), [MAY], (MAY,), PLAIN, THERE]
        for at in range(6):
            for thing in any_values() + [Pleasing(), THERE, BACK, PLAIN, 9]:
                if not (at == 4 and thing is THERE):
                    bad.append(MAY[:at] + (thing,) + MAY[at + 1:])
        for thing in bad:
            self.assertEqual(outcome_of(Yard, PLAIN, [PLAIN, FAST], [MUST, thing]), (BadMove, {"at": 1}), thing)
            self.assertEqual(outcome_of(Yard(PLAIN, [PLAIN, FAST], [MUST]).with_move, thing), (BadMove, {"at": 1}), thing)

    def test_numbers_that_are_not_there(self):
        for thing in [(2, 0, 1, 1, THERE, "may"), (-1, 0, 1, 1, THERE, "may"), (0, 4, 1, 1, THERE, "may"),
                      (0, -1, 1, 1, THERE, "may"), (0, 0, 2, 1, THERE, "may"), (0, 0, 1, 5, THERE, "may"),
                      (0, 0, 1, -1, THERE, "may"), (False, 0, 1, 1, THERE, "may"), (0, 0, True, 1, THERE, "may"),
                      (0, 0, 1, True, THERE, "may"), (0, False, 1, 1, THERE, "may")]:
            self.check(0, [thing])
            self.check(1, [MAY, thing])
            self.check(0, [thing, MAY, thing])
        self.assertEqual(len(Yard(PLAIN, [PLAIN, FAST], [(1, 4, 0, 3, BACK, "may"), (0, 3, 1, 4, THERE, "may")]).moves()), 2)

    def test_recipes_of_another_size(self):
        for recipe in [BACK, Recipe(3, [0, 1, 2]), Recipe(2, [0, 1, 0, 1]), Recipe(4, [0, 1, 2, 3]), Recipe(3, []), None, THERE.terms]:
            self.check(0, [(0, 0, 1, 1, recipe, "may")])
        for recipe, at in [(THERE, 1), (BACK, 1), (Recipe.keeping(3), None)]:
            moves = [MAY, (0, 1, 0, 1, recipe, "must")]
            if at is None:
                self.assertEqual(Yard(PLAIN, [PLAIN, FAST], moves).moves(), moves)
            else:
                self.check(at, moves)

    def test_kinds(self):
        for kind in ("", "MAY", "may ", "might", None, True, 1, ("may",), b"may"):
            self.check(0, [MAY[:5] + (kind,)])

    def test_moves_beside_one_another(self):
        may, must = (1, 2, 0, 2, BACK, "may"), MUST
        self.assertEqual(Yard(PLAIN, [PLAIN, FAST], [may, may, MAY, may]).moves(), [may, may, MAY, may])
        self.check(1, [may, must])
        self.check(1, [must, may])
        self.check(1, [must, must])
        self.check(2, [may, may, must])
        self.check(2, [must, MAY, may, None])
        self.check(3, [must, MAY, (0, 0, 0, 0, Recipe.keeping(3), "may"), MUST])
        self.assertEqual(len(Yard(PLAIN, [PLAIN, FAST], [must, (1, 1, 0, 2, BACK, "must"), (0, 2, 0, 2, Recipe.keeping(3), "must")])
                             .moves()), 3)

    def test_many_moves(self):
        self.assertEqual(len(Yard(PLAIN, [PLAIN, FAST], [MAY] * 2500).moves()), 2500)
        self.check(2500, [MAY] * 2500 + [MAY[:5] + ("must",)])

    def test_the_first_bad_one_is_told(self):
        self.check(1, [MAY, None, MUST, MUST])
        self.check(2, [MAY, MUST, MUST, None])
        self.check(0, [None] * 9000)


class YardTest(unittest.TestCase):
    def test_what_it_tells(self):
        yard = Yard(PLAIN, [FAST, PLAIN], [], begins=[1, 0, 1, 1])
        self.assertEqual([yard.true, yard.versions(), yard.moves(), yard.begins], [PLAIN, [FAST, PLAIN], [], (0, 1)])
        yard = Yard(PLAIN, [PLAIN, FAST, PLAIN], [MUST, MAY], begins=(2,))
        self.assertEqual([yard.versions(), yard.moves(), yard.begins], [[PLAIN, FAST, PLAIN], [MUST, MAY], (2,)])
        self.assertEqual(Yard(PLAIN, [PLAIN], []).begins, (0,))
        self.assertEqual(Yard(PLAIN, [FAST], [], begins=(0,) * 5000).begins, (0,))

    def test_with_move(self):
        yard = Yard(PLAIN, [PLAIN, FAST], [MUST], begins=(1, 0))
        more = unchanged(self, yard.with_move, MAY)
        self.assertEqual([more.moves(), more.versions(), more.true, more.begins], [[MUST, MAY], [PLAIN, FAST], PLAIN, (0, 1)])
        self.assertEqual(yard.moves(), [MUST])
        self.assertEqual([more, more.with_move(MAY).moves()], [Yard(PLAIN, [PLAIN, FAST], [MUST, MAY], begins=[0, 1]), [MUST, MAY, MAY]])
        self.assertEqual(outcome_of(more.with_move, MUST), (BadMove, {"at": 2}))

    def test_copies(self):
        versions, moves, begins = [PLAIN, FAST], [MAY], [0]
        yard = Yard(PLAIN, versions, moves, begins=begins)
        versions.pop()
        moves.append(MUST)
        begins.append(1)
        yard.versions().clear()
        yard.moves().append(MUST)
        self.assertEqual([yard.versions(), yard.moves(), yard.begins], [[PLAIN, FAST], [MAY], (0,)])

    def test_equal(self):
        one = Yard(PLAIN, [PLAIN, FAST], [MAY, MUST])
        same = (0, 0, 1, 1, Recipe(3, (0, 1, ("twice", 1), 0)), "may")
        for other in [Yard(PLAIN, [PLAIN, FAST], [same, MUST], begins=[0, 0]), Yard(PLAIN, [PLAIN, FAST], [MAY]).with_move(MUST)]:
            self.assertTrue(one == other and not one != other)
        for other in [Yard(FAST, [PLAIN, FAST], [MAY, MUST]), Yard(PLAIN, [PLAIN, FAST, FAST], [MAY, MUST]),
                      Yard(PLAIN, [PLAIN, FAST], [MUST, MAY]), Yard(PLAIN, [PLAIN, FAST], [MAY]),
                      Yard(PLAIN, [PLAIN, FAST], [MAY, MUST], begins=(0, 1)), Yard(PLAIN, [PLAIN, FAST], [MAY, MUST], begins=(1,)),
                      Yard(PLAIN, [PLAIN, FAST], [MAY, MUST[:5] + ("may",)])]:
            self.assertTrue(one != other and not one == other)
        for thing in any_values() + [PLAIN, one.moves(), unittest.mock.ANY]:
            self.assertIs(one == thing, False)
            self.assertIs(one != thing, True)

    def test_nothing_can_be_assigned(self):
        for name in ("true", "begins"):
            with self.assertRaises(AttributeError):
                setattr(Yard(PLAIN, [PLAIN], []), name, 0)


if __name__ == "__main__":
    unittest.main()
