import string
import unittest

from framemoves.kinds import are_values, is_integer, is_name, is_outcome, is_term
from support import any_values, full, in_lists, nested, unchanged

FAR = 10 ** 39 + 7


class IntegersTest(unittest.TestCase):
    def test_integers(self):
        for thing in [0, 1, -1, 24, FAR, -FAR]:
            self.assertIs(is_integer(thing), True)

    def test_others(self):
        for thing in [True, False, None, "1", b"1", (), [], {}, (1,), [1], 1j]:
            self.assertIs(is_integer(thing), False)


class NamesTest(unittest.TestCase):
    def test_names(self):
        for thing in ["a", "z", "nil", "abcdefgh", "zzzzzzzz"]:
            self.assertIs(is_name(thing), True)
            self.assertIs(is_outcome(thing), True)
            self.assertIs(is_outcome(thing + "-"), True)
            self.assertIs(is_name(thing + "-"), False)

    def test_every_letter(self):
        for letter in map(chr, range(300)):
            self.assertIs(is_name(letter), letter in string.ascii_lowercase, letter)
            self.assertIs(is_name("a" + letter), letter in string.ascii_lowercase, letter)

    def test_no_names(self):
        for thing in ["", "abcdefghi", "A", "a b", "a\n", "\na", "a1", "_", " a", "a" * 10000, "-", "--", "-a", "a--"]:
            self.assertIs(is_name(thing), False, thing)
            self.assertIs(is_outcome(thing), False, thing)

    def test_outcomes_of_nine_letters(self):
        self.assertIs(is_outcome("abcdefgh-"), True)
        self.assertIs(is_outcome("abcdefghi-"), False)

    def test_others(self):
        for thing in [None, True, 0, b"a", b"a-", ["a"], ("a",), ("a", "-"), {"a": 0}, {"a"}]:
            self.assertIs(is_name(thing), False)
            self.assertIs(is_outcome(thing), False)


class TermsTest(unittest.TestCase):
    def test_terms(self):
        for thing in [0, 5, FAR, ("c",), ("f", 0), ("f", 0, 1), ("f", 0, 1, 2), ("abcdefgh", ("c",)), ("f", ("f", FAR)),
                      nested(20), nested(200), full(10)]:
            self.assertIs(is_term(thing), True)

    def test_no_terms(self):
        for thing in any_values() + [("f", 0, 1, 2, 3), ("abcdefghi",), (), ((),), ("f", ()), ("f", ("g", None)), (0,),
                                     (0, 1), ["f"], ("f", ["c"]), ("f-",), nested(20, True), nested(20, -1)]:
            self.assertIs(is_term(thing), False, thing)

    def test_great_values(self):
        self.assertIs(is_term(in_lists(30)), False)
        self.assertIs(is_term(tuple([0] * 20000)), False)
        self.assertIs(is_term(("f", tuple([0] * 19000))), False)
        self.assertIs(is_term(nested(29, [0])), False)

    def test_deeper_than_calls_go(self):
        self.assertIs(is_term(nested(50000)), True)
        self.assertIs(is_term(nested(50000, "x")), False)


class ValuesTest(unittest.TestCase):
    def test_values(self):
        for thing in [(), (0,), (("c",), 0), (FAR, FAR, ("f", 0))]:
            for many in range(4):
                self.assertIs(are_values(many, thing), many == len(thing))

    def test_no_values(self):
        for many, thing in [(0, []), (1, [0]), (1, (True,)), (1, (-1,)), (2, (0, None)), (2, (0, "c")), (1, 0),
                            (2, "ab"),
                            (0, {}), (0, None), (-1, ()), (2, ("f", 0)), (1, ((0,),)), (2, range(2))]:
            self.assertIs(are_values(many, thing), False, thing)

    def test_many(self):
        self.assertIs(are_values(20000, tuple([1] * 20000)), True)
        self.assertIs(are_values(20000, tuple([1] * 19999 + [False])), False)

    def test_any_value(self):
        for thing in any_values():
            self.assertIs(are_values(2, thing), False, thing)

    def test_nothing_is_changed(self):
        for thing in [[1, [2]], {"a": [1]}, ("f", [0])]:
            for kind in (is_integer, is_name, is_outcome, is_term):
                self.assertIs(unchanged(self, kind, thing), False)
            self.assertIs(unchanged(self, are_values, 2, thing), False)


if __name__ == "__main__":
    unittest.main()
