import copy
import itertools
import unittest
import unittest.mock

from framemoves.codes import Code
from framemoves.errors import BadPlace, NoPlace, Wrong
from framemoves.worlds import World
from support import Pleasing, any_values, full, in_lists, nested, unchanged

WORLD = World({"ask": (1, {"no": 0, "yes": 1, "both-": 2}), "tick": (0, {"tock": 0}), "two": (2, {"x": 0})})
END = ("end", "done", ())
WAYS = (("both-", (1, 0), 2), ("no", (), 1), ("yes", (2,), 0))
SET = ("set", ((0, 1), (2, ("f", 0))), 1)
ASK = ("ask", "ask", (("g", 0, 2),), WAYS)
ROWS = [SET, ASK, END]


def code(*rows, variables=3, given=1, world=WORLD):
    """A code with these statements."""
    return Code(world, variables, given, list(rows))


class ArgumentsTest(unittest.TestCase):
    def check(self, place, *things):
        with self.assertRaises(Wrong) as caught:
            Code(*things)
        self.assertEqual(caught.exception.place, place)

    def test_world(self):
        for thing in any_values() + [{"ask": (0, {"no": 0})}, World, code(END), [WORLD]]:
            self.check(0, thing, 3, 1, ROWS)

    def test_variables(self):
        for thing in any_values() + [-1, 25, 10 ** 39, True, "3", (3,), [3]]:
            self.check(1, WORLD, thing, 0, ROWS)

    def test_given(self):
        for thing in any_values() + [-1, 4, True, "1", (1,), 10 ** 39]:
            self.check(2, WORLD, 3, thing, ROWS)
        self.check(2, WORLD, 0, 1, [END])

    def test_statements(self):
        for thing in [None, True, 0, "", "end", (), [], {}, {0: END}, {END}, range(2), b"e", code(END), 1j]:
            self.check(3, WORLD, 3, 1, thing)

    def test_the_first_one_is_told(self):
        self.check(0, None, None, None, None)
        self.check(1, WORLD, 25, 26, [])
        self.check(2, WORLD, 3, 4, [])
        self.check(2, WORLD, 3, 4, [None])
        self.check(3, WORLD, 3, 3, [])

    def test_numbers_of_variables(self):
        for variables in (0, 1, 24):
            for given in (0, variables):
                one = Code(WORLD, variables, given, (END,))
                self.assertEqual([one.variables, one.given, one.world], [variables, given, WORLD])
                self.assertEqual(one.first(), (0, tuple(range(given)) + (("nil",),) * (variables - given)))

    def test_variable_24(self):
        for row in [("set", ((24, 0),), 0), ("set", ((0, 24),), 0), ("end", "done", (("f", 24),))]:
            with self.assertRaises(BadPlace):
                Code(WORLD, 24, 0, [row])
            Code(WORLD, 24, 0, [eval(repr(row).replace("24", "23"))])


class StatementsTest(unittest.TestCase):
    def bad(self, *things):
        for thing in things:
            for at in (0, 1, 2):
                rows = list(ROWS)
                rows[at] = thing
                with self.assertRaises(BadPlace, msg=repr(thing)) as caught:
                    Code(WORLD, 3, 1, rows)
                self.assertEqual(caught.exception.at, at)

    def good(self, *things):
        for thing in things:
            for at in (0, 1, 2):
                rows = list(ROWS)
                rows[at] = thing
                self.assertEqual(Code(WORLD, 3, 1, rows).statement(at), thing)
                self.assertEqual(Code(WORLD, 3, 1, tuple(rows)).statement(at), thing)

    def test_no_statements(self):
        self.bad(*any_values())
        self.bad(("go", "done", ()), ("", "done", ()), ("ends", "done", (0,)), (Pleasing(), (), 0),
                 (Pleasing(), "done", ()), (Pleasing(), "ask", (0,), WAYS), ("ask", Pleasing(), (0,), WAYS),
                 ("end", Pleasing(), ()),
                 ("set", ((Pleasing(), 0),), 0), ("set", ((0, Pleasing()),), 0), ("set", (), Pleasing()),
                 ("ask", "ask", (0,), ((Pleasing(), (2,), 0),) + WAYS[:2]))
        self.bad((), [], ("set",), ("ask",), ("end",), ("go", (), 0), ("Set", (), 0), list(SET), list(ASK), list(END),
                 (b"set", (), 0), (None, (), 0), (["set"], (), 0), ("", (), 0), in_lists(29), tuple([0] * 19000))

    def test_sets(self):
        self.good(SET, ("set", (), 0), ("set", (), 2), ("set", ((0, 2), (1, 1), (2, ("c",))), 0),
                  ("set", ((1, full(6, 2)),), 0))
        self.bad(("set", ()), ("set", (), 0, 0), ("set", (), 3), ("set", (), -1), ("set", (), True), ("set", (), False),
                 ("set", (), None), ("set", (), "0"), ("set", [], 0), ("set", None, 0), ("set", {}, 0), ("set", 0, 0))

    def test_changes(self):
        for change in [(), (0,), (0, 1, 2), [0, 1], None, 0, "01", (3, 0), (-1, 0), (True, 0), (False, 0), ("0", 0),
                       (None, 0), ((0,), 0), ([0], 0), (0, 3), (0, ("f", 3)), (0, ("f", ("g", 0, 3))), (0, -1),
                       (0, True),
                       (0, "c"), (0, None), (0, ["c"]), (0, ("f", 0, 1, 2, 0)), (0, ()), (0, nested(26, 3))]:
            self.bad(("set", (change,), 0), ("set", ((1, 0), change), 0), ("set", (change, (2, 2)), 0))
        self.bad(("set", ((0, 1), (0, 1)), 0), ("set", ((0, 1), (1, 0), (0, 2)), 0))

    def test_asks(self):
        self.good(ASK, ("ask", "tick", (), (("tock", (), 2),)), ("ask", "two", (0, ("c",)), (("x", (), 0),)))
        self.bad(("ask", "ask", (0,)), ASK + (0,), ("ask", "nope", (0,), WAYS), ("ask", "", (0,), WAYS),
                 ("ask", None, (0,), WAYS), ("ask", ["ask"], (0,), WAYS), ("ask", ("ask",), (0,), WAYS),
                 ("ask", b"ask", (0,), WAYS), ("ask", {}, (0,), WAYS), ("ask", 0, (0,), WAYS))

    def test_terms_of_asks(self):
        for terms in [(), (0, 1), [0], None, 0, "0", {0}, (3,), (("f", 3),), (True,), (-1,), ("c",), (None,), ([0],)]:
            self.bad(("ask", "ask", terms, WAYS))
        self.bad(("ask", "two", (0,), (("x", (), 0),)), ("ask", "two", (0, 3), (("x", (), 0),)),
                 ("ask", "tick", (0,), (("tock", (), 0),)), ("ask", "tick", [], (("tock", (), 0),)))

    def test_ways(self):
        self.bad(("ask", "ask", (0,), list(WAYS)), ("ask", "ask", (0,), None), ("ask", "ask", (0,), ()),
                 ("ask", "ask", (0,), WAYS[:2]), ("ask", "ask", (0,), WAYS + WAYS[:1]), ("ask", "ask", (0,), {}),
                 ("ask", "ask", (0,), WAYS + (("maybe", (), 0),)), ("ask", "ask", (0,), dict.fromkeys("abc")))
        for way in [(), ("yes",), ("yes", (2,)), ("yes", (2,), 0, 0), ["yes", (2,), 0], None, 0, "yes", ("no", (), 0),
                    ("Yes", (2,), 0), ("yes-", (2,), 0), (b"yes", (2,), 0), (None, (2,), 0), (["yes"], (2,), 0),
                    (0, (2,), 0), ("yes", (), 0), ("yes", (1, 2), 0), ("yes", [2], 0), ("yes", 2, 0), ("yes", None, 0),
                    ("yes", (3,), 0), ("yes", (-1,), 0), ("yes", (True,), 0), ("yes", ("c",), 0), ("yes", ([2],), 0),
                    ("yes", (("c",),), 0), ("yes", {2: 0}, 0), ("yes", (2,), 3), ("yes", (2,), -1), ("yes", (2,), True),
                    ("yes", (2,), False), ("yes", (2,), None), ("yes", (2,), "0"), ("yes", (2,), (0,))]:
            self.bad(("ask", "ask", (0,), WAYS[:2] + (way,)), ("ask", "ask", (0,), (way,) + WAYS[:2]))
        for targets in [(0, 0), (2, 2), (0,), (0, 1, 2), (0, 3), (True, 0), ({}, 0)]:
            self.bad(("ask", "ask", (0,), (("both-", targets, 2),) + WAYS[1:]))

    def test_more_values_than_variables(self):
        one = World({"get": (0, {"x": 2})})
        for variables in (0, 1):
            with self.assertRaises(BadPlace):
                Code(one, variables, 0, [("ask", "get", (), (("x", (0, 1)[:variables], 0),))])

    def test_ends(self):
        self.good(END, ("end", "abcdefgh", (0,)), ("end", "a", (("f", 2), ("c",))), ("end", "end", (2, 2)))
        self.bad(("end", "done"), ("end", "done", (), 0), ("end", "done", (0, 1, 2)), ("end", "done", []),
                 ("end", "done", None), ("end", "done", 0), ("end", "done", {}), ("end", "", ()), ("end", "Done", ()),
                 ("end", "done-", ()), ("end", "abcdefghi", ()), ("end", None, ()), ("end", b"done", ()),
                 ("end", ["done"], ()), ("end", "done", (3,)), ("end", "done", (0, True)), ("end", "done", (-1,)),
                 ("end", "done", ("c",)), ("end", "done", (None,)), ("end", "done", (("f", ("f", 3)),)))

    def test_the_first_bad_place_is_told(self):
        with self.assertRaises(BadPlace) as caught:
            code(END, None, None)
        self.assertEqual(caught.exception.at, 1)

    def test_great_codes(self):
        rows = [("set", (), at + 1) for at in range(4000)] + [END]
        self.assertEqual([code(*rows).showing(0), len(code(*rows))], [4000, 4001])
        with self.assertRaises(BadPlace) as caught:
            code(*rows[:-1])
        self.assertEqual(caught.exception.at, 3999)
        self.assertEqual(code(("set", ((0, nested(27, 1)),), 0)).statement(0)[1][0][1], nested(27, 1))


class TellingTest(unittest.TestCase):
    def test_order(self):
        for changes in itertools.permutations([(0, 1), (1, ("f", 0)), (2, 2)]):
            for ways in itertools.permutations(WAYS):
                one = code(("set", changes, 1), ("ask", "ask", (0,), ways), END)
                self.assertEqual(one.statement(0), ("set", ((0, 1), (1, ("f", 0)), (2, 2)), 1))
                self.assertEqual(one.statement(1), ("ask", "ask", (0,), WAYS))
                self.assertEqual(one.statements(), [one.statement(at) for at in range(3)])
                self.assertTrue(one == code(("set", changes[::-1], 1), ("ask", "ask", (0,), ways[::-1]), END))

    def test_order_of_ways_of_other_acts(self):
        world = World({"go": (0, {"a": 0, "b": 0, "b-": 0}), "set": (0, {"x": 0, "y": 0})})
        rows = [("ask", "go", (), (("b-", (), 1), ("a", (), 1), ("b", (), 0))), ("end", "ask", (0,)),
                ("end", "set", ()),
                ("ask", "set", (), (("y", (), 0), ("x", (), 1)))]
        self.assertEqual(code(*rows, world=world).statements(),
                         [("ask", "go", (), (("a", (), 1), ("b", (), 0), ("b-", (), 1))), ("end", "ask", (0,)),
                          ("end", "set", ()), ("ask", "set", (), (("x", (), 1), ("y", (), 0)))])

    def test_no_place(self):
        one = code(*ROWS)
        for place in (-1, -3, 3, 4, 10 ** 39):
            for call in (one.statement, one.showing):
                with self.assertRaises(NoPlace) as caught:
                    call(place)
                self.assertEqual(caught.exception.place, place)

    def test_one_place(self):
        one = code(END)
        self.assertEqual([len(one), one.statements(), one.showing(0)], [1, [END], 0])
        self.assertIsNone(code(("set", (), 0)).showing(0))

    def test_showing(self):
        rows = [("set", (), 1), ("set", (), 2), ASK, ("set", (), 4), ("set", (), 3), ("set", (), 4), END,
                ("set", (), 0)]
        one = code(*rows)
        self.assertEqual([one.showing(place) for place in range(8)], [2, 2, 2, None, None, None, 6, 2])

    def test_showing_backwards(self):
        rows = [END] + [("set", (), at) for at in range(8)] + [("set", (), 9)]
        self.assertEqual([code(*rows).showing(place) for place in range(10)], [0] * 9 + [None])

    def test_first(self):
        self.assertEqual(code(END, variables=4, given=2).first(), (0, (0, 1, ("nil",), ("nil",))))
        self.assertEqual(code(END, variables=0, given=0).first(), (0, ()))

    def test_copies(self):
        rows = copy.deepcopy(ROWS)
        one = unchanged(self, Code, WORLD, 3, 1, rows)
        rows[0] = END
        rows.append(END)
        one.statements().append(END)
        one.statements()[0] = None
        self.assertEqual([one.statements(), len(one), one.statement(0)], [ROWS, 3, SET])


class SameTest(unittest.TestCase):
    def test_equal(self):
        other = World({"two": (2, {"x": 0}), "tick": (0, {"tock": 0}), "ask": (1, {"both-": 2, "yes": 1, "no": 0})})
        self.assertTrue(code(*ROWS) == Code(other, 3, 1, tuple(ROWS)))
        self.assertFalse(code(*ROWS) != Code(other, 3, 1, tuple(ROWS)))

    def test_not_equal(self):
        for other in [code(*ROWS, variables=4), code(*ROWS, given=2), code(*ROWS, END),
                      code(SET, ASK, ("end", "bye", ())),
                      code(("set", SET[1], 2), ASK, END), code(END, ASK, END)]:
            self.assertTrue(code(*ROWS) != other)
            self.assertFalse(code(*ROWS) == other)
        self.assertTrue(code(END) != code(END, world=World({})))

    def test_equal_to_nothing_else(self):
        for thing in any_values() + [ROWS, WORLD]:
            self.assertIs(code(*ROWS) == thing, False)
            self.assertIs(code(*ROWS) != thing, True)
        self.assertIs(code(END) == unittest.mock.ANY, False)


if __name__ == "__main__":
    unittest.main()
