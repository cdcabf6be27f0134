import unittest

from framemoves.calm import are_calm_rows, calm, recipe_once, yard_needs
from framemoves.codes import Code
from framemoves.errors import NoPlace, NoVersion, TooMany, Unfit
from framemoves.moves import is_right
from framemoves.patterns import Pattern
from framemoves.recipes import Recipe
from framemoves.solving import Equations
from framemoves.worlds import World
from framemoves.yards import Yard
from plain import WORLDS, histories_of, plain_history, plain_item
from plain_yards import (all_standings, is_right_history, outcomes_of, pairs_from, plain_are_calm_rows, plain_calm, plain_looks, plain_needs,
                         plain_terms_once, plain_yard_rounds, random_yard, standing_and_values)
from support import Pleasing, any_values, in_lists, nested, outcome_of, random_term, seeded, unchanged
from test_histories import FAST, PLAIN, TWICE, YARD

GO = WORLDS[2]
GET = WORLDS[1]
NIL = ("nil",)
CHAIN = World({"step": (0, {"on": 0}), "tell": (1, {"done": 0})})


def ways(*tos):
    """The ways of the act go."""
    return tuple((outcome, (), to) for outcome, to in zip("abc", tos))


def stuck_yard(count):
    """A yard in whose version 0 three variables have the value 0 behind some outcomes each, and f of it is kept."""
    true = Code(GO, 1, 1, [("ask", "go", (), ways(1, 1, 1)), ("end", "out", (("f", 0),))])
    rows = [[(1,), (1, 2), (1,)], [(), (1, 2), ()], [(1,), (2,), (1, 2)], [(1, 2), (1, 3), (2, 3)]][count]
    sets = [("set", ((0, ("f", 0)),) + tuple((at, 0) for at in row), 4) for row in rows]
    return Yard(true, [Code(GO, 4, 1, [("ask", "go", (), ways(1, 2, 3))] + sets + [("end", "out", (0,))]), true], [])


class NeedsTest(unittest.TestCase):
    def test_by_hand(self):
        for standing, rows in [((0, 0, 0), [(3, 0), (4, 1)]), ((0, 0, 1), None), ((1, 0, 1), [(3, 0), (4, 1)]),
                               ((2, 0, 1), [(2, TWICE), (3, 0), (4, 1)]), ((2, 0, 2), [(3, 0), (4, 1), (5, 2)]),
                               ((0, 1, 0), [(3, 0), (4, 1)]), ((0, 1, 1), [(3, 0), (4, 1), (5, TWICE)]),
                               ((2, 1, 2), [(3, 0), (4, 1), (5, 2)]), ((1, 1, 2), [(3, 0), (4, 1), (5, TWICE)]),
                               ((3, 0, 3), []), ((3, 1, 3), []), ((3, 1, 2), None), ((0, 0, 3), None)]:
            expected = None if rows is None else Equations(6, rows)
            told = unchanged(self, yard_needs, YARD, *standing)
            self.assertEqual(told, expected)
            self.assertEqual(told if told is None else told.rows(), rows)

    def test_without_moves(self):
        yard = Yard(PLAIN, [PLAIN], [])
        self.assertEqual(yard_needs(yard, 0, 0, 0).rows(), [(3, 0), (4, 1)])
        self.assertEqual(yard_needs(yard, 2, 0, 1).rows(), [(2, TWICE), (3, 0), (4, 1)])

    def test_versions_of_other_sizes(self):
        small = Code(PLAIN.world, 2, 2, [("ask", "less", (0, 1), (("no", (), 2), ("yes", (), 1))),
                                         ("ask", "tell", (TWICE,), (("done", (), 0),)), ("end", "bye", ())])
        yard = Yard(PLAIN, [small, PLAIN], [(0, 1, 1, 2, Recipe(2, [0, 1, TWICE]), "may")])
        self.assertEqual(yard_needs(yard, 0, 0, 0), Equations(5, [(3, 0), (4, 1)]))
        self.assertEqual(yard_needs(yard, 2, 0, 1), Equations(5, [(2, TWICE), (3, 0), (4, 1)]))
        self.assertEqual(yard_needs(yard, 0, 1, 0), Equations(6, [(3, 0), (4, 1)]))
        self.assertEqual(calm(yard)[0], "calm")

    def test_may_moves_add_and_must_moves_replace(self):
        end = Code(GO, 2, 2, [("end", "out", (0,)), ("end", "out", (1,)), ("end", "bye", ()), ("set", ((0, 1),), 0)])
        keep, turn = Recipe.keeping(2), Recipe(2, [1, 0])
        for moves, rows in [([], [(2, 0)]), ([(0, 0, 0, 0, keep, "may")], [(2, 0)]), ([(0, 0, 0, 1, keep, "may")], [(2, 0), (3, 0)]),
                            ([(0, 0, 0, 1, keep, "must")], [(3, 0)]), ([(0, 0, 0, 2, keep, "may")], None),
                            ([(0, 0, 0, 0, Recipe(2, [1, 0]), "may")], [(2, 0), (3, 0)]), ([(0, 0, 0, 2, keep, "must")], None),
                            ([(0, 0, 0, 1, turn, "must")], [(2, 0)]), ([(0, 0, 0, 1, turn, "may")], [(2, 0)]),
                            ([(0, 0, 0, 1, turn, "may"), (0, 0, 0, 1, keep, "may")], [(2, 0), (3, 0)]),
                            ([(0, 0, 0, 1, Recipe(2, [0, ("f", 1)]), "may")], [(0, ("f", 3)), (2, ("f", 3))]),
                            ([(0, 0, 0, 0, Recipe(2, [("f", 0), 1]), "may")], None)]:
            found = yard_needs(Yard(end, [end], moves), 0, 0, 0)
            self.assertEqual(found if found is None else found.rows(), rows)
        # At a set, too, a may move is one more way on, and a must move the only one.
        for kind, rows in [("may", [(2, 0), (3, 0)]), ("must", [(2, 0)])]:
            self.assertEqual(yard_needs(Yard(end, [end], [(0, 3, 0, 0, keep, kind)]), 0, 0, 3).rows(), rows)

    def test_rings_of_must_moves(self):
        end = Code(GO, 1, 1, [("end", "out", (0,)), ("set", (), 1)])
        keep = Recipe.keeping(1)
        ring = Yard(end, [end], [(0, 0, 0, 0, keep, "must")])
        self.assertEqual([yard_needs(ring, 0, 0, 0), yard_needs(ring, 1, 0, 0).rows()], [None, []])
        ring = Yard(end, [end, end], [(0, 0, 1, 1, keep, "must"), (1, 1, 0, 0, Recipe(1, [("f", 0)]), "must")])
        self.assertEqual([yard_needs(ring, 0, 0, 0), yard_needs(ring, 1, 0, 0).rows(), yard_needs(ring, 1, 1, 1).rows()], [None, [], []])
        self.assertEqual([yard_needs(ring, 0, 1, 0).rows(), yard_needs(ring, 1, 1, 0)], [[(1, 0)], None])
        self.assertEqual(yard_needs(ring, 1, 0, 1).rows(), [])

    def test_something_seen_of_one_alone(self):
        end = Code(GO, 1, 1, [("end", "out", (0,)), ("set", (), 1), ("set", (), 0)])
        yard = Yard(end, [end], [])
        self.assertEqual([[yard_needs(yard, there, 0, place) is None for place in range(3)] for there in range(3)],
                         [[False, True, False], [True, False, True], [False, True, False]])
        # From a silent place of the version a may move leads to where something is seen.
        yard = Yard(end, [end], [(0, 1, 0, 0, Recipe.keeping(1), "may")])
        self.assertEqual([yard_needs(yard, 1, 0, 1), yard_needs(yard, 0, 0, 1)], [None, None])

    def test_behind_many_rounds(self):
        for many in (1, 9, 30):
            rows = [("ask", "step", (), (("on", (), at + 1),)) for at in range(many)] + [("end", "out", (0,))]
            true = Code(CHAIN, 2, 2, rows)
            other = Code(CHAIN, 2, 2, rows[:-1] + [("end", "out", (1,))])
            yard = Yard(true, [other, true], [(0, many - 1, 1, many - 1, Recipe(2, [1, 1]), "may")])
            self.assertEqual(yard_needs(yard, 0, 0, 0).rows(), [(3, 0)])
            self.assertEqual(yard_needs(yard, 0, 0, 1), None)

    def test_brought_values_are_new(self):
        keep = Code(GET, 2, 1, [("ask", "get", (), (("one", (1,), 1), ("two", (0, 1), 1))), ("end", "out", (1,))])
        old = Code(GET, 2, 1, [("ask", "get", (), (("one", (0,), 1), ("two", (1, 0), 1))), ("end", "out", (1,))])
        self.assertEqual(yard_needs(Yard(keep, [keep], []), 0, 0, 0).rows(), [])
        self.assertEqual(yard_needs(Yard(keep, [old], []), 0, 0, 0), None)

    def test_two_brought_values(self):
        true = Code(GET, 2, 0, [("ask", "get", (), (("one", (1,), 1), ("two", (0, 1), 1))), ("end", "out", (1,))])
        for target, rows in [(1, None), (2, [])]:
            one = Code(GET, 3, 0, [("ask", "get", (), (("one", (2,), 1), ("two", (0, target), 1))), ("end", "out", (2,))])
            for versions in ([one], [one, Code(GET, 5, 0, [("end", "out", ())])]):
                found = yard_needs(Yard(true, versions, []), 0, 0, 0)
                self.assertEqual(found if found is None else found.rows(), rows)

    def test_errors(self):
        for standing, error in [((4, 2, 9), (NoPlace, {"place": 4})), ((-1, 0, 0), (NoPlace, {"place": -1})),
                                ((0, 2, 9), (NoVersion, {"number": 2})), ((0, -1, 0), (NoVersion, {"number": -1})),
                                ((0, 1, 4), (NoPlace, {"place": 4})), ((0, 0, -1), (NoPlace, {"place": -1}))]:
            self.assertEqual(unchanged(self, yard_needs, YARD, *standing), error)
            self.assertEqual(outcome_of(yard_needs, GREAT, *standing, most=1), error)
        self.assertEqual(outcome_of(yard_needs, GREAT, 0, 0, 0, most=1), (TooMany, {"limit": 1}))

    def test_limits(self):
        # The rows of a standing that is not asked for count, too, and those of a round that is not the last one.
        yard = great_yard(7)
        for standing in [(0, 0, 0), (0, 0, 1), (1, 0, 1)]:
            self.assertEqual(outcome_of(yard_needs, yard, *standing, most=6), (TooMany, {"limit": 6}))
            self.assertEqual(outcome_of(yard_needs, yard, *standing, most=7), plain_needs(yard, *standing))
        # The values of the true code on the way count, those of a version do not.
        long = Code(GO, 1, 1, [("set", ((0, nested(5)),), 1), ("set", ((0, ("c",)),), 2), ("end", "out", (0,))])
        short = Code(GO, 1, 1, [("end", "out", (("c",),))])
        self.assertEqual(outcome_of(yard_needs, Yard(long, [short], []), 2, 0, 0, most=4), (TooMany, {"limit": 4}))
        self.assertEqual(yard_needs(Yard(long, [short], []), 2, 0, 0, most=5).rows(), [(0, ("c",))])
        self.assertEqual(yard_needs(Yard(short, [long], []), 0, 0, 0, most=1).rows(), [])
        ring = Code(GO, 1, 1, [("set", ((0, nested(5)),), 1), ("set", (), 1)])
        self.assertEqual(yard_needs(Yard(ring, [ring], []), 0, 0, 0, most=1).rows(), [])


def great_yard(many):
    """A yard of which the rows of one standing have so many operations."""
    code = Code(GO, 2, 2, [("end", "out", (0,)), ("end", "out", (nested(many, 1),))])
    return Yard(code, [code], [])


GREAT = Yard(PLAIN, [Code(PLAIN.world, 3, 2, [("set", ((2, nested(9, 0)),), 1)] + PLAIN.statements()[1:]), FAST], [])


class CalmTest(unittest.TestCase):
    def test_by_hand(self):
        self.assertEqual(unchanged(self, calm, YARD), ("calm", [
            (0, 0, 0, (0, 1, 2, 0, 1, 2)), (0, 1, 0, (0, 1, 2, 0, 1, 2)), (0, 1, 1, (0, 1, 2, 0, 1, TWICE)),
            (1, 0, 1, (0, 1, 2, 0, 1, 2)), (1, 0, 2, (0, 1, 2, 0, 1, TWICE)), (1, 1, 2, (0, 1, 2, 0, 1, TWICE)),
            (3, 0, 3, (0, 1, 2, 0, 1, 2)), (3, 1, 3, (0, 1, 2, 0, 1, 3))]))

    def test_without_moves(self):
        self.assertEqual(calm(Yard(PLAIN, [PLAIN], [])), ("calm", [
            (0, 0, 0, (0, 1, 2, 0, 1, 2)), (1, 0, 1, (0, 1, 2, 0, 1, 2)), (1, 0, 2, (0, 1, 2, 0, 1, TWICE)),
            (3, 0, 3, (0, 1, 2, 0, 1, 2))]))
        self.assertEqual(calm(Yard(PLAIN, [PLAIN, PLAIN, FAST], []))[1], calm(Yard(PLAIN, [PLAIN], []))[1])

    def test_beginnings(self):
        for begins, numbers in [((0,), [0]), ((2,), [2]), ((2, 0), [0, 2])]:
            yard = Yard(PLAIN, [PLAIN, PLAIN, FAST], [], begins=begins)
            self.assertEqual(sorted({row[1] for row in calm(yard)[1]}), numbers)
        wrong = Code(PLAIN.world, 0, 0, [("end", "bye", ())])
        other = Code(PLAIN.world, 2, 2, [("end", "bye", ())])
        true = Code(PLAIN.world, 0, 0, [("set", (), 0)])
        self.assertEqual(calm(Yard(PLAIN, [PLAIN, other, FAST], [], begins=(2, 1, 0))), ("parted", [1]))
        self.assertEqual(calm(Yard(true, [true, wrong], [], begins=(0, 1))), ("parted", [1]))
        self.assertEqual(calm(Yard(wrong, [true, wrong], [], begins=(0, 1))), ("parted", [0]))

    def test_parted_by_moves(self):
        keep = Recipe.keeping(3)
        for moves, history in [([(0, 0, 1, 1, keep, "may")], [0, 0, "yes"]), ([(0, 0, 1, 1, keep, "must")], [0, 0, "yes"]),
                               ([(0, 3, 1, 2, keep, "must")], [0, "no"]), ([(0, 3, 1, 2, keep, "may")], [0, "no", 0]),
                               ([(0, 0, 1, 1, Recipe(3, [1, 1, 2]), "may")], [0, 0]),
                               ([(0, 2, 1, 2, keep, "may"), (1, 2, 0, 2, Recipe(3, [1, 0, 2]), "may")], [0, "yes", "", 0, 1, "done"]),
                               ([(0, 0, 0, 0, keep, "must")], [0])]:
            yard = Yard(PLAIN, [PLAIN, FAST], moves)
            self.assertEqual(unchanged(self, calm, yard), ("parted", history))
            self.assertIs(is_right_history(yard, history), False)

    def test_parted_only_behind_two_right_moves(self):
        rows = [("set", ((1, 0),), 1), ("ask", "go", (), ways(1, 2, 3)), ("end", "out", (0,)), ("end", "bye", (0,))]
        one = Code(GO, 2, 1, rows)
        other = Code(GO, 2, 1, rows[:2] + [("end", "out", (1,)), ("end", "bye", (1,))])
        there, back = Recipe(2, [("c",), 0]), Recipe(2, [0, ("c",)])
        self.assertEqual([is_right(one, 1, other, 1, there), is_right(other, 1, one, 1, back)], [True, True])
        yard = Yard(one, [one, other], [(0, 1, 1, 1, there, "may"), (1, 1, 0, 1, back, "may")])
        self.assertEqual(calm(yard), ("parted", [0, "", 0, 1, "b"]))
        self.assertEqual(calm(Yard(one, [one, other], yard.moves()[:1]))[0], "calm")
        self.assertEqual(calm(Yard(one, [one, other], [yard.moves()[0], (1, 1, 0, 1, Recipe(2, [1, 1]), "may")]))[0], "calm")

    def test_silent_ones(self):
        silent = Code(GO, 1, 0, [("ask", "go", (), ways(1, 1, 0)), ("set", ((0, ("f", 0)),), 2), ("set", ((0, NIL),), 1)])
        keep = Recipe.keeping(1)
        self.assertEqual(calm(Yard(silent, [silent], [(0, 1, 0, 1, keep, "must")])),
                         ("calm", [(0, 0, 0, (NIL, NIL)), (1, 0, 1, (NIL, NIL))]))
        self.assertEqual(calm(Yard(silent, [silent], [(0, 1, 0, 0, keep, "may")])), ("parted", [0, "a", 0]))
        self.assertEqual(calm(Yard(silent, [silent], [(0, 1, 0, 2, keep, "may")]))[0], "calm")

    def test_limits(self):
        # The values of both frames count together; on the way to what is seen next each frame's own.
        start = ("ask", "go", (), ways(1, 1, 0))
        wide = Code(GO, 1, 1, [start, ("end", "out", ()), ("end", "out", (0,))])
        great = Code(GO, 1, 1, [start, ("set", ((0, nested(5)),), 2), ("set", ((0, ("c",)),), 3), ("end", "out", ())])
        for yard, most in [(Yard(wide, [great], []), 5), (Yard(great, [wide], []), 5), (Yard(great, [great], []), 5),
                           (Yard(wide, [wide, wide], [(0, 1, 1, 1, Recipe(1, [nested(5)]), "may")]), 5)]:
            self.assertEqual(outcome_of(calm, yard, most=most - 1), (TooMany, {"limit": most - 1}))
            self.assertEqual(calm(yard, most=most)[0], "calm")
            self.assertEqual(calm(yard, most=200), calm(yard, most=most))
        # Of one variable each code has a value of four operations.
        both = Code(GO, 1, 1, [("set", ((0, nested(4)),), 1), ("ask", "go", (), ways(1, 2, 2)), ("end", "out", (0,))])
        self.assertEqual(outcome_of(calm, Yard(both, [both], []), most=7), (TooMany, {"limit": 7}))
        self.assertEqual(calm(Yard(both, [both], []), most=8)[0], "calm")
        self.assertEqual(outcome_of(calm, Yard(both, [both], []), most=3), (TooMany, {"limit": 3}))

    def test_limits_and_histories_that_are_not_right(self):
        term = nested(9)
        ask = ("ask", "go", (), ways(1, 2, 3))
        true = Code(GO, 1, 1, [ask, ("end", "out", ()), ("end", "out", ()), ("end", "out", ())])
        # Behind b it is not right; behind a values are too great, in the first rows one item later.
        late = Code(GO, 1, 1, [ask, ("ask", "go", (), ways(4, 4, 4)), ("end", "bye", ()), ("end", "out", ()), ("set", ((0, term),), 0)])
        self.assertEqual(calm(Yard(late, [Code(GO, 1, 1, late.statements()[:2] + [("end", "out", ())] + late.statements()[3:])], []), most=3),
                         ("parted", [0, "b"]))
        same = Code(GO, 1, 1, [ask, ("set", ((0, term),), 3), ("end", "bye", ()), ("end", "out", ())])
        self.assertEqual(outcome_of(calm, Yard(true, [same], []), most=3), (TooMany, {"limit": 3}))
        self.assertEqual(calm(Yard(true, [same], []), most=9), ("parted", [0, "b"]))
        early = Code(GO, 1, 1, [("set", ((0, term),), 1), ask[:3] + (ways(2, 3, 3),), ("end", "bye", ()), ("end", "out", ())])
        self.assertEqual(outcome_of(calm, Yard(true, [early], []), most=8), (TooMany, {"limit": 8}))
        self.assertEqual(calm(Yard(true, [early], []), most=9), ("parted", [0, "", "a"]))

    def test_by_turns(self):
        other = Yard(PLAIN, [PLAIN, FAST], [(0, 0, 1, 1, Recipe.keeping(3), "may")])
        told = calm(YARD)
        for _ in range(3):
            self.assertEqual([calm(other), calm(YARD)], [("parted", [0, 0, "yes"]), told])
            calm(YARD)[1].clear()
            calm(other)[1].clear()


class RowsTest(unittest.TestCase):
    def test_any_value(self):
        rows = calm(YARD)[1]
        for thing in any_values() + [tuple(rows), [list(row) for row in rows], {0: rows}, [rows], in_lists(30, rows), rows + [None],
                                     [Pleasing()] * 8, [row[:3] for row in rows], [row + (0,) for row in rows]]:
            self.assertIs(are_calm_rows(YARD, thing), False, thing)
        for at in range(4):
            for thing in any_values() + [Pleasing(), 99, -1, True, False]:
                self.assertIs(are_calm_rows(YARD, rows[1:] + [rows[0][:at] + (thing,) + rows[0][at + 1:]]),
                              at < 3 and thing is not False and thing == 0 and not isinstance(thing, (Pleasing, bool)), thing)

    def test_changed_rows(self):
        rows = calm(YARD)[1]
        self.assertIs(unchanged(self, are_calm_rows, YARD, rows), True)
        self.assertIs(are_calm_rows(YARD, rows[::-1]), True)
        self.assertIs(are_calm_rows(YARD, [row[:3] + (tuple(7 if term == 2 else term for term in row[3]),) for row in rows]), True)
        for at, row in enumerate(rows):
            self.assertIs(are_calm_rows(YARD, rows[:at] + rows[at + 1:]), False)
            self.assertIs(are_calm_rows(YARD, rows + [row]), False)
            for terms in (row[3][:-1], row[3] + (9,), list(row[3]), (("c",),) + row[3][1:], ()):
                self.assertIs(are_calm_rows(YARD, rows[:at] + [row[:3] + (terms,)] + rows[at + 1:]), False)
        # A row for a standing that does not come is one of its own; it may be wider, if nothing is seen of it.
        self.assertIs(are_calm_rows(YARD, rows[:-1] + [(3, 1, 3, (0, 1, 2, 3, 4, 5))]), True)
        self.assertIs(are_calm_rows(YARD, [(0, 0, 0, (0, 1, 2, 3, 1, 2))] + rows[1:]), False)
        self.assertIs(are_calm_rows(YARD, rows + [(3, 0, 0, (0, 1, 2, 0, 1, 2))]), False)
        self.assertIs(are_calm_rows(YARD, rows + [(2, 0, 2, (0, 1, TWICE, 0, 1, TWICE))]), True)
        self.assertIs(are_calm_rows(YARD, rows + [(2, 0, 2, (0, 1, 2, 0, 1, TWICE))]), False)

    def test_rows_of_another_yard(self):
        for moves in ([(0, 0, 1, 1, Recipe.keeping(3), "may")], [(0, 3, 1, 2, Recipe.keeping(3), "must")]):
            self.assertIs(are_calm_rows(Yard(PLAIN, [PLAIN, FAST], moves), calm(YARD)[1]), False)
        few = Yard(PLAIN, [PLAIN, FAST], YARD.moves()[:3], begins=[0])
        self.assertIs(are_calm_rows(few, calm(YARD)[1]), True)
        self.assertIs(are_calm_rows(YARD, calm(few)[1]), False)
        self.assertIs(are_calm_rows(few, []), False)

    def test_great_values_are_none_too_many(self):
        double = Code(GO, 1, 1, [("set", ((0, ("g", 0, 0)),), at + 1) for at in range(60)] + [("end", "out", (0,))])
        yard = Yard(double, [double], [])
        self.assertEqual(outcome_of(calm, yard), (TooMany, {"limit": 200}))
        self.assertIs(are_calm_rows(yard, [(0, 0, 0, (0, 0))]), False)
        ring = Code(GO, 1, 1, [("set", ((0, ("g", 0, 0)),), 0)])
        self.assertIs(are_calm_rows(Yard(ring, [ring], []), [(0, 0, 0, (0, 1))]), True)
        self.assertIs(are_calm_rows(Yard(ring, [ring], []), [(0, 0, 0, (0, 0))]), False)


class OnceTest(unittest.TestCase):
    def test_by_hand(self):
        for place, there, found in [(0, 0, [0, 1, NIL]), (0, 1, [0, 1, TWICE]), (1, 2, [0, 1, TWICE]), (2, 2, [0, 1, 2]),
                                    (3, 3, [NIL, NIL, NIL]), (0, 2, None), (3, 1, None)]:
            told = unchanged(self, recipe_once, YARD, 0, place, 1, there)
            if found is None:
                self.assertEqual((told[0], len(told[1])), ("stuck", 1))
            else:
                self.assertEqual(told, ("move", Recipe(3, found)))

    def test_stuck_by_several(self):
        for count in (1, 2, 3):
            told = unchanged(self, recipe_once, stuck_yard(count), 0, 4, 1, 1)
            self.assertEqual((told[0], len(told[1])), ("stuck", count))
            self.assertEqual(len({tuple(history) for history in told[1]}), count)
            for at in range(count):
                self.assertIsNotNone(plain_terms_once(stuck_yard(count), 1, 1, told[1][:at] + told[1][at + 1:]))
            self.assertIsNone(plain_terms_once(stuck_yard(count), 1, 1, told[1]))
        self.assertEqual(recipe_once(stuck_yard(0), 0, 4, 1, 1), ("move", Recipe(4, [1])))

    def test_several_places_of_the_true_code(self):
        true = Code(GO, 1, 1, [("ask", "go", (), ways(1, 2, 2)), ("end", "out", (("f", 0),)), ("end", "out", (("f", 0),))])
        one = Code(GO, 3, 1, [("ask", "go", (), ways(1, 2, 2)), ("set", ((1, 0), (0, ("f", 0))), 3),
                              ("set", ((2, 0), (0, ("f", 0))), 3), ("end", "out", (0,))])
        told = recipe_once(Yard(true, [one, true], []), 0, 3, 1, 1)
        self.assertEqual(told[0], "stuck")
        self.assertEqual(sorted(outcomes_of(history)[0] for history in told[1]), ["a", "b"])
        both = Code(GO, 3, 1, one.statements()[:2] + [("set", ((1, 0), (2, 0), (0, ("f", 0))), 3)] + one.statements()[3:])
        self.assertEqual(recipe_once(Yard(true, [both, true], []), 0, 3, 1, 1), ("move", Recipe(3, [1])))
        # A variable that only one place of the true code determines is made for it; the other place does not mind.
        mind = Code(GO, 1, 1, [("ask", "go", (), ways(1, 2, 2)), ("end", "out", (0,)), ("end", "out", (NIL,))])
        keep = Code(GO, 1, 1, [("ask", "go", (), ways(1, 1, 1)), ("ask", "go", (), ways(0, 0, 0))])
        self.assertEqual(recipe_once(Yard(keep, [keep, mind], []), 0, 0, 1, 0)[0], "stuck")

    def test_nothing_comes_to_the_place(self):
        lone = Code(PLAIN.world, 3, 2, PLAIN.statements() + [("end", "out", (0,))])
        yard = Yard(PLAIN, [lone, FAST, PLAIN], [])
        self.assertEqual(recipe_once(yard, 0, 4, 1, 2), ("move", Recipe(3, [NIL] * 3)))
        self.assertEqual(recipe_once(yard, 2, 0, 1, 2), ("move", Recipe(3, [NIL] * 3)))

    def test_to_versions_of_other_sizes(self):
        small = Code(PLAIN.world, 2, 2, [("ask", "less", (0, 1), (("no", (), 2), ("yes", (), 1))),
                                         ("ask", "tell", (TWICE,), (("done", (), 0),)), ("end", "bye", ())])
        yard = Yard(PLAIN, [small, PLAIN], [])
        self.assertEqual(recipe_once(yard, 0, 1, 1, 2), ("move", Recipe(2, [0, 1, TWICE])))
        self.assertEqual(recipe_once(yard, 0, 1, 0, 0)[0], "stuck")
        self.assertEqual(recipe_once(Yard(PLAIN, [PLAIN, small], []), 0, 2, 1, 1), ("move", Recipe(3, [0, 1])))

    def test_errors(self):
        bad = Yard(PLAIN, [PLAIN, FAST], [(0, 0, 1, 1, Recipe.keeping(3), "may")])
        for yard in (YARD, bad, GREAT):
            for things, error in [((2, 9, 9, 9), (NoVersion, {"number": 2})), ((0, 4, 9, 9), (NoPlace, {"place": 4})),
                                  ((0, 1, 3, 9), (NoVersion, {"number": 3})), ((0, 1, 0, 4), (NoPlace, {"place": 4})),
                                  ((-1, 0, 0, 0), (NoVersion, {"number": -1})), ((0, -1, 0, 0), (NoPlace, {"place": -1}))]:
                self.assertEqual(unchanged(self, recipe_once, yard, *things, most=1), error)
        self.assertEqual(unchanged(self, recipe_once, bad, 0, 0, 1, 0), (Unfit, {}))
        self.assertEqual(outcome_of(recipe_once, bad, 0, 0, 1, 0, most=1), (TooMany, {"limit": 1}))
        # The values of histories are small here, so that only the needs are too great.
        self.assertEqual(outcome_of(recipe_once, great_yard(9), 0, 0, 0, 0, most=8), (TooMany, {"limit": 8}))
        self.assertEqual(recipe_once(great_yard(9), 0, 0, 0, 0, most=9), ("move", Recipe(2, [0, NIL])))
        # A yard that is not calm is told ahead of needs that are too great.
        code = great_yard(9).true
        unfit = Yard(code, [code], [(0, 0, 0, 0, Recipe(2, [1, 1]), "may")])
        self.assertEqual(outcome_of(recipe_once, unfit, 0, 0, 0, 0, most=8), (Unfit, {}))

    def test_what_is_returned_is_new(self):
        told = recipe_once(stuck_yard(2), 0, 4, 1, 1)[1]
        told[0].clear()
        told.pop()
        self.assertEqual([len(history) for history in recipe_once(stuck_yard(2), 0, 4, 1, 1)[1]], [3, 3])


def plain_width(yard, standing):
    """How many values both frames of a standing have."""
    return yard.true.variables + yard.versions()[standing[1]].variables


class SecondTest(unittest.TestCase):
    def test_needs_as_told_a_second_time(self):
        rng = seeded(73)
        kinds = {}
        for _ in range(120):
            yard, most = random_yard(rng), rng.choice([200, 200, 10, 5, 2])
            rounds = outcome_of(plain_yard_rounds, yard, most)
            for standing in all_standings(yard):
                told = outcome_of(yard_needs, yard, *standing, most=most)
                if isinstance(rounds, tuple):
                    self.assertEqual(told, rounds)
                else:
                    rows = rounds[-1][standing]
                    self.assertEqual(told if told is None else told.rows(), rows)
                    kinds[None if rows is None else min(len(rows), 3)] = True
            kinds["rounds", min(len(rounds), 6)] = True
        self.assertGreaterEqual(set(kinds), {None, 0, 1, 2, 3, ("rounds", 6)})

    def test_values_satisfy_needs_if_the_same_is_shown(self):
        rng = seeded(733)
        found = []
        for _ in range(150):
            yard = random_yard(rng)
            rounds = outcome_of(plain_yard_rounds, yard)
            for standing in rng.sample(all_standings(yard), 2) if isinstance(rounds, list) and len(rounds) < 7 else []:
                for _ in range(4):
                    values = tuple(rng.choice([0, 0, 1, NIL, ("f", 0)]) for _ in range(plain_width(yard, standing)))
                    needs = yard_needs(yard, *standing)
                    found.append(needs is not None and values in needs)
                    self.assertIs(found[-1], self.is_shown_the_same(yard, standing, values, len(rounds)), (standing, values))
        self.assertGreater(min(found.count(True), found.count(False)), 40)

    def is_shown_the_same(self, yard, standing, values, deep):
        """Whether the same is seen next of both frames behind fewer than so many items."""
        level = [(standing, values)]
        for at in range(deep):
            following = []
            for place, some in level:
                same, behind = pairs_from(yard, *place, some, 900 + 2 * at)
                if not same:
                    return False
                following.extend(behind)
            level = [pair for at, pair in enumerate(following) if pair not in following[:at]]
        return True

    def test_calm_as_told_a_second_time(self):
        rng = seeded(731)
        kinds = {}
        for _ in range(300):
            yard, most = random_yard(rng, 6), rng.choice([200, 200, 200, 10, 5, 2])
            told = outcome_of(calm, yard, most=most)
            self.assertEqual(told, outcome_of(plain_calm, yard, most))
            kinds[told[0], len(told[1]) if told[0] == "parted" else 0] = True
            if told[0] == "parted":
                self.assertIs(is_right_history(yard, told[1]), False)
            if len(told[1]) < 5 or told[0] == "calm":
                wrong = [history for history in histories_of(yard, 4) if not outcome_of(is_right_history, yard, history)]
                if most == 200 or told[0] == "parted":
                    self.assertEqual(len(wrong[0]) if wrong else None, len(told[1]) if told[0] == "parted" else None)
        self.assertGreaterEqual(set(kinds), {("calm", 0), ("parted", 1), ("parted", 2), ("parted", 4), (TooMany, 0)})

    def test_rows_as_told_a_second_time(self):
        rng = seeded(732)
        found = []
        for _ in range(250):
            yard = random_yard(rng)
            told = outcome_of(calm, yard)
            rows = told[1] if told[0] == "calm" else []
            if told[0] == "calm":
                self.assertIs(are_calm_rows(yard, rows), True)
            for _ in range(4):
                thing = other_rows(rng, yard, rows)
                found.append(unchanged(self, are_calm_rows, yard, thing))
                self.assertEqual(found[-1], plain_are_calm_rows(yard, thing))
        self.assertGreater(min(found.count(True), found.count(False)), 100)

    def test_recipes_as_told_a_second_time(self):
        rng = seeded(74)
        kinds = {}
        for _ in range(100):
            yard = random_yard(rng)
            looks = outcome_of(plain_looks, yard)
            for _ in range(6):
                at, to = rng.choice(all_standings(yard))[1:], rng.choice(all_standings(yard))[1:]
                told = outcome_of(recipe_once, yard, *at, *to)
                if looks[0] != "calm":
                    self.assertEqual(told, (Unfit, {}) if looks[0] == "parted" else looks)
                    continue
                histories = [history for standing, some in looks[1].items() if standing[1:] == at for history in some]
                terms = outcome_of(plain_terms_once, yard, *to, histories)
                if told[0] == "move":
                    self.assertEqual(list(told[1].terms), terms)
                    self.check_once(yard, to, told[1], histories)
                elif told[0] == "stuck":
                    self.check_stuck(yard, at, to, told[1])
                else:
                    self.assertEqual(told, terms)
                kinds[told[0]] = True
        self.assertGreaterEqual(set(kinds), {"move", "stuck"})

    def check_stuck(self, yard, at, to, histories):
        """That histories lead to a place, and that with no recipe they are right, but with one without any one."""
        self.assertGreater(len(histories), 0)
        self.assertIsNone(plain_terms_once(yard, *to, histories))
        for place, history in enumerate(histories):
            self.assertEqual(standing_and_values(yard, history)[0][1:], at)
            self.assertIsNotNone(plain_terms_once(yard, *to, histories[:place] + histories[place + 1:]))

    def check_once(self, yard, to, recipe, histories):
        """That what is shown behind the move is what is seen of the true code, for some items behind it."""
        for history in histories[:3]:
            state = plain_history(yard, history)
            for more in [[], *[list(items[1:]) for items in histories_of(Yard(yard.true, yard.versions(), [], begins=[to[0]]), 3)]]:
                behind = (to[0], to[1], recipe(state[2]), state[3], state[4])
                outcomes = outcomes_of(history)
                for item in more:
                    behind = plain_item(yard, behind, item) if behind is not None else None
                    outcomes = outcomes + [item] if item != "" and isinstance(item, str) else outcomes
                if behind is not None:
                    self.check_shown(yard, behind, outcomes)

    def check_shown(self, yard, state, outcomes):
        from framemoves.runs import seen
        self.assertEqual(state[4], seen(yard.true, outcomes)[:-1])


def other_rows(rng, yard, rows):
    """Rows with something changed: in another order, one out, one more, a term changed, wider ones."""
    rows = list(rows)
    how = rng.randrange(6)
    if how == 0 or not rows:
        rng.shuffle(rows)
        return rows
    at = rng.randrange(len(rows))
    if how == 1:
        rows.pop(at)
    elif how == 2:
        rows.append(rng.choice(all_standings(yard)) + (rng.choice(rows)[3],))
    elif how == 3 and rows[at][3]:
        where = rng.randrange(len(rows[at][3]))
        terms = rows[at][3][:where] + (random_term(rng, 1, [0, 1, 50]),) + rows[at][3][where + 1:]
        rows[at] = rows[at][:3] + (terms,)
    elif how == 4:
        rows[at] = rows[at][:3] + ((Pattern(rows[at][3]) | Pattern([(("c",), 0, 1)[k % 3] for k in range(len(rows[at][3]))])).terms,)
    else:
        rows[at] = rows[at][:3] + (tuple(range(len(rows[at][3]))),)
    return rows


if __name__ == "__main__":
    unittest.main()
