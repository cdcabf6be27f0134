import unittest

from framemoves.book import Book
from framemoves.codes import Code
from framemoves.errors import Broken, NoText
from framemoves.notation import (read_code, read_deed, read_log, read_move, read_term, show_code, show_deed, show_log, show_move,
                                 show_term)
from framemoves.recipes import Recipe
from framemoves.terms import size
from framemoves.trust import doubled
from framemoves.worlds import World
from plain import NAMES, WORLDS, random_code
from plain_books import PlainBook, random_deed
from plain_yards import random_recipe
from support import any_values, full, in_lists, nested, outcome_of, random_term, seeded, unchanged
from test_book import MOVE, book_of, two
from test_histories import FAST as fast
from test_histories import PLAIN as plain

WORLD = World({"check": (0, {"ok": 0, "bad": 0}), "work": (1, {"done": 1})})
CODE = Code(WORLD, 2, 1, [("ask", "check", (), (("ok", (), 1), ("bad", (), 3))), ("set", ((1, ("f", 0)),), 2),
                          ("ask", "work", (1,), (("done", (0,), 0),)), ("end", "out", (0, 1))])
TEXT = ("act check 0 bad:0 ok:0\nact work 1 done:1\ncode 2 1 4\nask check () bad:3 ok:1\nset 2 1=f(0)\n"
        "ask work (1) done:0:0\nend out (0,1)\n")
NONE = (NoText, {})
NINES = "9" * 40
LETTERS = "abcfgknorx0123456789-+_()=:, \n"


def no_strings():
    return [thing for thing in any_values() if not isinstance(thing, str)] + [b"0", [0], ["0"], in_lists(30, "0"), 0, 10 ** 4000]


class Case(unittest.TestCase):
    def check_texts(self, show, read, rows):
        """That things have these texts, and that the texts lead back to them."""
        for thing, text in rows:
            self.assertEqual(unchanged(self, show, thing), text)
            self.assertEqual(unchanged(self, read, text), thing)

    def check_none(self, read, texts):
        """That nothing has these texts."""
        for text in texts:
            self.assertEqual(outcome_of(read, text), NONE, repr(text)[:200])
        for thing in no_strings():
            self.assertEqual(outcome_of(read, thing), NONE)

    def check_exact(self, rng, show, read, text):
        """That a text with some letters changed is refused, or that it is the text of what is read."""
        letters = list(text)
        for _ in range(rng.randrange(1, 3)):
            at = rng.randrange(len(letters) + 1)
            letters[at:at + rng.randrange(3)] = rng.choices(LETTERS, k=rng.randrange(3))
        changed = "".join(letters)
        found = outcome_of(read, changed)
        if found != NONE:
            self.assertEqual(show(found), changed)
        return found != NONE


class TermTest(Case):
    def test_texts(self):
        self.check_texts(show_term, read_term, [
            (0, "0"), (7, "7"), (10, "10"), (("c",), "c"), (("f", 0, ("g", ("c",))), "f(0,g(c))"), (("h", 1, 2, 3), "h(1,2,3)"),
            (("abcdefgh",), "abcdefgh"), (("f", ("f", ("f", 12))), "f(f(f(12)))"), (("c", ("c",)), "c(c)"), (int(NINES), NINES),
            (("f", 10 ** 39), "f(1" + "0" * 39 + ")"), (nested(200), "f(" * 200 + "0" + ")" * 200), (nested(199, ("c",)), "f(" * 199 + "c" + ")" * 199)])
        self.assertEqual(size([read_term(show_term(full(7)))]), 127)

    def test_none(self):
        self.check_none(read_term, [
            "", " ", "00", "01", "-0", "-1", "+1", "1_0", "0x1", " 0", "0 ", "0\n", "\n0", "c ", " c", "c()", "f()", "f(0,)", "f(,0)", "f(,)", "f(0,,1)",
            "f(0 )", "f( 0)", "f (0)", "f(0, 1)", "f(0))", "f((0))", "(0)", "f(0", "f0)", "f)0(", ")", "(", "()", ",", "0,1", "c,c", "f(1,2,3,4)",
            "f(0)(1)", "f(0)g", "f(0)1", "0(1)", "1(0)", "ninechars", "ninechars(0)", "F", "f(C)", "f(0)c", "f1", "f-", "f-(0)", "f.g", "f(01)", "f(-1)",
            "f(00)", "None", "True", "0" * 41, "1" * 41, "9" * 5000, "f(" + "1" * 41 + ")", "f(0;1)", "f[0]", "f(0]", "'f'", '"f"', "f(0)\n", "f\n(0)",
            "f(0),", ",f(0)", "f(0),g", "f(g(0)", "f(g(0)))", "f(\"0\")", "=", ":", "1=0", "a:b"])

    def test_200_operations(self):
        for term, fits in [(nested(200), True), (nested(201), False), (nested(200, ("c",)), False),
                           (("g", nested(100), nested(99)), True), (("g", nested(100), nested(100)), False),
                           (("h", nested(66, ("c",)), nested(66, ("c",)), nested(64, ("c",))), True),
                           (("h", nested(66, ("c",)), nested(66, ("c",)), nested(65, ("c",))), False), (full(8), False)]:
            text = show_term(term)
            self.assertEqual(outcome_of(read_term, text), term if fits else NONE)

    def test_very_long_texts(self):
        self.check_none(read_term, ["f(" * 10 ** 5, "f(" * 10 ** 5 + "0" + ")" * 10 ** 5, "0" * 10 ** 6, "1" * 10 ** 6, "a" * 10 ** 6, "(" * 10 ** 6,
                                    ")" * 10 ** 6, "0," * 10 ** 5 + "0", "f(" + "0," * 10 ** 5 + "0)", "c " * 10 ** 5, "f(0)" * 10 ** 5, "," * 10 ** 6,
                                    "\n" * 10 ** 6, "f(" + "c(" * 10 ** 5 + "0", "g(" + "f(0)," * 10 ** 5 + "0)"])
        self.assertEqual(len(show_term(nested(10000))), 30001)

    def test_there_and_back(self):
        rng = seeded(101)
        taken = 0
        for _ in range(1500):
            term = random_term(rng, 5, [0, 3, 10, 207, 10 ** 39])
            self.assertEqual(read_term(show_term(term)), term)
            taken += self.check_exact(rng, show_term, read_term, show_term(term))
        self.assertGreater(taken, 100)


class CodeTest(Case):
    def test_as_it_stands(self):
        self.assertEqual(
            show_code(CODE),
            'act check 0 bad:0 ok:0\nact work 1 done:1\ncode 2 1 4\nask check () bad:3 ok:1\nset 2 1=f(0)\nask work (1) done:0:0\nend out (0,1)\n')

    def test_texts(self):
        wide = World({"get": (2, {"two": 2, "one": 1, "b-": 0, "b": 2}), "abcdefgh": (0, {"x": 0})})
        big = Code(wide, 24, 3, [("set", (), 3), ("set", ((23, ("c",)), (2, 2), (10, ("g", 1, ("f", 23)))), 0),
                                 ("ask", "get", (0, ("c",)), (("two", (23, 0), 1), ("b", (0, 1), 2), ("one", (4,), 3), ("b-", (), 0))),
                                 ("end", "out", ()), ("ask", "abcdefgh", (), (("x", (), 4),))])
        self.check_texts(show_code, read_code, [
            (CODE, TEXT), (Code(World({}), 0, 0, [("end", "out", ())]), "code 0 0 1\nend out ()\n"),
            (big, "act abcdefgh 0 x:0\nact get 2 b:2 b-:0 one:1 two:2\ncode 24 3 5\nset 3\nset 0 2=2 10=g(1,f(23)) 23=c\n"
                  "ask get (0,c) b:2:0:1 b-:0 one:3:4 two:1:23:0\nend out ()\nask abcdefgh () x:4\n"),
            (plain, "act less 2 no:0 yes:0\nact tell 1 done:0\ncode 3 2 4\nask less (0,1) no:3 yes:1\nset 2 2=twice(1)\n"
                    "ask tell (2) done:0\nend bye ()\n")])
        for code in (fast, doubled(CODE, {"check": "ok"}), Code(WORLD, 1, 0, [("set", (), 0)] * 60)):
            self.assertEqual(read_code(show_code(code)), code)

    def test_none(self):
        lines = TEXT.split("\n")[:-1]
        changed = [lines[:at] + [line] + lines[at + 1:] for at, rows in enumerate([
            ["act check 0 ok:0 bad:0", "act check 0 bad:0 ok:0 ", "act  check 0 bad:0 ok:0", "act check 0 bad:0  ok:0", "act check 00 bad:0 ok:0",
             "act check 3 bad:0 ok:0", "act check 0 bad:3 ok:0", "act check 0 bad:0 bad:0 ok:0", "act check 0 bad: ok:0", "act check 0 bad ok:0",
             "act check 0 bad:0:0 ok:0", "act check 0", "act check", "act", "act ", "Act check 0 bad:0 ok:0", " act check 0 bad:0 ok:0", "act Check 0 bad:0",
             "act check -0 bad:0 ok:0", "act check 0 bad:-0 ok:0", "act check 0 bad:+0 ok:0", "act check 0 a:0 b:0 bad:0 c:0 d:0 e:0 ok:0", "check 0 bad:0 ok:0",
             "act check 0 bad--:0 ok:0", "act check 0 -:0 ok:0", "act checking 0 bad:0 ok:0", "act checkings 0 bad:0 ok:0", ""],
            ["act work 1", "act work 1 done:1 late:0", "act check 1 done:1", "act alpha 1 done:1", "act work 0 done:1", "act work 1 done:0"],
            ["code 2 1 3", "code 2 1 5", "code 2 1 04", "code 2 1 4 ", "code 2 1", "code 2 1 4 0", "code 1 1 4", "code 2 3 4", "code 25 1 4", "code 02 1 4",
             "code 2 -1 4", "code 2 +1 4", "Code 2 1 4", "code  2 1 4", "cod 2 1 4", "code 2 1 " + NINES, "code 2 1 " + "9" * 41, "code a 1 4", ""],
            ["ask check () ok:1 bad:3", "ask check () bad:3", "ask check () bad:3 ok:1 ok:1", "ask check () bad:3 ok:4", "ask check () bad:3 ok:1:0",
             "ask check (0) bad:3 ok:1", "ask check bad:3 ok:1", "ask check ( ) bad:3 ok:1", "ask check  bad:3 ok:1", "ask none () bad:3 ok:1", "ask check () bad:3 ok",
             "ask check () bad:03 ok:1", "ask check () bad:3 ok:1 ", "ask check ()  bad:3 ok:1", "ask check () bad:3 ok:", "ask check () bad:3: ok:1", "ask", "ask check"],
            ["set 2 1=f(0) ", "set 2  1=f(0)", "set 4 1=f(0)", "set 2 2=f(0)", "set 2 1=f(2)", "set 2 1=f(0) 1=f(0)", "set 2 1=f(0) 0=1", "set 2 1", "set 2 1=",
             "set 2 =f(0)", "set 2 1=f(0)=0", "set 2 1==f(0)", "set", "set ", "set 02 1=f(0)", "set 2 01=f(0)", "set 2 1=F(0)", "set 2 1= f(0)", "set -2", "sets 2"],
            ["ask work (1) done:0:0:1", "ask work (1) done:0", "ask work (1) done:0:2", "ask work (1,0) done:0:0", "ask work () done:0:0", "ask work 1 done:0:0",
             "ask work (2) done:0:0", "ask work (1) done:0:00", "ask work (1) done:0:0:", "ask work (1)done:0:0", "ask work (01) done:0:0", "ask work (1,) done:0:0"],
            ["end out (0,1,0)", "end out (0,2)", "end out 0", "end out", "end out (0,1) ", "end  (0,1)", "end Out (0,1)", "end ninechars (0,1)", "end out (0, 1)",
             "end out (0,1) 0", "End out (0,1)", "end out (0,1", "end out ((0,1))", "back (0)", "call f () () 0", "", "end out (0,)", "end out (,1)"]])
            for line in rows]
        texts = ["\n".join(rows) + "\n" for rows in changed]
        self.check_none(read_code, texts + [
            "", "\n", " ", TEXT[:-1], TEXT + "\n", "\n" + TEXT, " " + TEXT, TEXT + " ", TEXT + TEXT, TEXT.replace("\n", "\n\n"), TEXT.replace("\n", " "),
            "\n".join(lines[1:]) + "\n", "\n".join(lines[:2] + lines[3:]) + "\n", "\n".join([lines[1], lines[0]] + lines[2:]) + "\n",
            "\n".join(lines[:3]) + "\n", "\n".join(lines[:-1]) + "\n", TEXT + lines[-1] + "\n", "code 0 0 0\n", "code 0 0 1\n", TEXT.upper()])

    def test_terms_of_200_operations(self):
        for many in (200, 201):
            for rows in ([("set", ((0, nested(many)),), 0)], [("end", "out", (nested(many), 0))], [("ask", "work", (nested(many),), (("done", (0,), 0),))]):
                code = Code(WORLD, 1, 1, rows)
                self.assertEqual(outcome_of(read_code, show_code(code)), code if many == 200 else NONE)
        # Each term may have so many.
        code = Code(WORLD, 2, 1, [("set", ((0, nested(200)), (1, nested(200))), 0), ("end", "out", (nested(200), nested(200)))])
        self.assertEqual(read_code(show_code(code)), code)

    def test_very_long_texts(self):
        for text in ["act " * 10 ** 5, "act a 0 x:0\n" * 10 ** 5, "code 0 0 1\n" * 10 ** 5, "set 0\n" * 10 ** 5, "code 0 0 100000\n" + "set 0\n" * 99999,
                     "act a 0 " + "x:0 " * 10 ** 5, "code 1 1 1\nset 0 " + "0=0 " * 10 ** 5, "code " + "9" * 10 ** 6 + " 0 1\n", "\n" * 10 ** 6,
                     "code 1 1 1\nend out (" + "f(" * 10 ** 5, "code 1 1 1\nend out (" + "0," * 10 ** 5 + "0)\n"]:
            self.assertEqual(outcome_of(read_code, text), NONE)
        code = Code(World({}), 0, 0, [("set", (), 0)] * 5000)
        self.assertEqual(read_code(show_code(code)), code)

    def test_there_and_back(self):
        rng = seeded(1011)
        taken = 0
        for _ in range(500):
            code = random_code(rng, rng.choice(WORLDS), rng.randrange(2, 5), rng.randrange(3), rng.randrange(1, 5))
            self.assertEqual(read_code(show_code(code)), code)
            for _ in range(4):
                taken += self.check_exact(rng, show_code, read_code, show_code(code))
        self.assertGreater(taken, 100)


class MoveTest(Case):
    def test_texts(self):
        great = 10 ** 39
        self.check_texts(show_move, read_move, [
            ((0, 0, 1, 1, Recipe(3, [0, 1, ("twice", 1)]), "may"), "0 0 1 1 may 3 (0,1,twice(1))"),
            ((2, 10, 0, 0, Recipe(0, []), "must"), "2 10 0 0 must 0 ()"), ((0, 0, 0, 0, Recipe(2, [("c",)]), "may"), "0 0 0 0 may 2 (c)"),
            ((great, great, great, great, Recipe(great + 1, [great]), "must"), " ".join([str(great)] * 4 + ["must", str(great + 1), f"({great})"])),
            ((0, 1, 2, 3, Recipe(1, [nested(200), nested(200)]), "may"), f"0 1 2 3 may 1 ({show_term(nested(200))},{show_term(nested(200))})")])

    def test_none(self):
        text = "0 0 1 1 may 3 (0,1,f(1))"
        self.check_none(read_move, [
            "", " ", text + " ", " " + text, text + "\n", text.replace("may", "MAY"), text.replace("may", "might"), text.replace("may ", ""),
            text.replace("may", "may "), text.replace(" 3", " 1"), text.replace("3", "03"), text.replace("3 ", ""), text.replace("3 ", "3"),
            text.replace("0 0", "0"), text.replace("0 0", "0 -0"), text.replace("0 0", "0 -1"), text.replace("0 0", "00 0"), text.replace("0 0", "+0 0"),
            text.replace("0 0", "0  0"), text.replace("0 0", "0 0 0"), text.replace("(0,1,f(1))", "0,1,f(1)"), text.replace("(0,1,f(1))", "(0,1,f(3))"),
            text.replace("(0,1,f(1))", "(0,1,f(1)"), text.replace(",", ", "), text.replace("f", "F"), text.replace("f(1)", "f()"), text + " 0",
            "move " + text, text.replace("3", "-3"), text.replace("1", "1" * 41), text.replace("0 0", "0_0 0"), text.replace("(0,1,f(1))", ""),
            f"0 1 2 3 may 1 ({show_term(nested(201))})", "0 0 1 1 may 3 " + "(" * 10 ** 5, "0 " * 10 ** 5, "0 0 1 1 may 3 " + "0" * 10 ** 6,
            "a 0 1 1 may 3 (0)", "0 0 1 1 may (0) 3", "0 0 1 1 3 (0) may", "0 0 1 1 may 3 c"])

    def test_there_and_back(self):
        rng = seeded(1012)
        taken = 0
        for _ in range(800):
            many = rng.randrange(4)
            move = tuple(rng.choice([0, 1, 12, 10 ** 39]) for _ in range(4)) + (random_recipe(rng, many, rng.randrange(4), 3), rng.choice(["may", "must"]))
            self.assertEqual(read_move(show_move(move)), move)
            taken += self.check_exact(rng, show_move, read_move, show_move(move))
        self.assertGreater(taken, 50)


class DeedTest(Case):
    def test_texts(self):
        self.check_texts(show_deed, read_deed, [
            (("move", MOVE), "move 0 0 1 1 may 3 (0,1,twice(1))"), (("drop", 0), "drop 0"), (("drop", -1), "drop -1"), (("drop", int(NINES)), "drop " + NINES),
            (("drop", -int(NINES)), "drop -" + NINES), (("begin", 2), "begin 2"), (("begin", -20), "begin -20"), (("go", ""), "go -"), (("go", 0), "go 0"),
            (("go", 17), "go 17"), (("go", -3), "go -3"), (("go", "yes"), "go yes"), (("go", "yes-"), "go yes-"), (("go", "abcdefgh-"), "go abcdefgh-"),
            (("version", CODE), "version\n" + TEXT[:-1]), (("version", Code(World({}), 0, 0, [("end", "out", ())])), "version\ncode 0 0 1\nend out ()"),
            (("go", "version"), "go version"), (("go", "go"), "go go")])

    def test_none(self):
        self.check_none(read_deed, [
            "", " ", "\n", "move", "move ", "drop", "drop ", "begin", "begin ", "go", "go ", "version", "version\n", "version ", "drop 00", "drop 01", "drop -0",
            "drop -01", "drop +1", "drop 1_0", "drop 1 ", " drop 1", "drop  1", "drop 1\n", "drop --1", "drop - 1", "drop 1.0", "drop a", "drop 0x1", "drop -",
            "drop " + "9" * 41, "drop -" + "9" * 41, "drop " + "0" * 41, "begin 00", "begin -0", "begin yes", "begin -", "go 00", "go -0", "go --", "go -- ", "go Yes",
            "go yes--", "go -yes", "go yes ", "go  yes", "go yes\n", "go ninechars", "go ninechars-", "go y1", "go " + "1" * 41, "Go yes", "go\nyes", "go - ",
            "go -\n", "goes 0", "move 0 0 1 1 may 3 (0,1,f(3))", "move  0 0 1 1 may 3 (0)", "Move 0 0 1 1 may 3 (0)", "move 0 0 1 1 may 3 (0)\n", "move -1 0 1 1 may 3 (0)",
            "version\n" + TEXT, "version\n" + TEXT[:-2], "version\n\n" + TEXT[:-1], "version " + TEXT[:-1], "Version\n" + TEXT[:-1], "version\n" + TEXT[:-1] + " ",
            "version\n" + TEXT[:-1] + "\ngo -", TEXT, TEXT[:-1], "do 0", "back", "again", "until 0", "trial 0", "drop\n0", "a" * 10 ** 6, "go " + "a" * 10 ** 6,
            "go " + "1" * 10 ** 6, "drop -" + "1" * 10 ** 6, "go -" + "1" * 10 ** 6])

    def test_there_and_back(self):
        rng = seeded(1013)
        taken = 0
        for _ in range(300):
            code = random_code(rng, rng.choice(WORLDS), 2, 1, rng.randrange(1, 4))
            deed = random_deed(rng, PlainBook(code))
            self.assertEqual(read_deed(show_deed(deed)), deed)
            for _ in range(3):
                taken += self.check_exact(rng, show_deed, read_deed, show_deed(deed))
        self.assertGreater(taken, 50)


class LogTest(Case):
    def test_texts(self):
        book = book_of(("version", fast), ("move", MOVE), ("go", 0), ("go", "yes"), ("begin", 1), ("go", ""), ("drop", 0))
        text = ("version\n" + show_code(fast) + "move 0 0 1 1 may 3 (0,1,twice(1))\ngo 0\ngo yes\nbegin 1\ngo -\ndrop 0\n")
        self.assertEqual(show_log(book), text)
        self.assertEqual(unchanged(self, read_log, plain, text), book)
        self.assertEqual([show_log(Book(plain)), read_log(plain, ""), len(read_log(plain, ""))], ["", Book(plain), 0])
        self.assertEqual(show_log(book_of(("version", fast), ("version", plain))), "version\n" + show_code(fast) + "version\n" + show_code(plain))
        self.assertEqual(read_log(plain, show_log(book_of(("version", fast), ("version", plain)))).yard().versions(), [plain, fast, plain])

    def test_what_was_undone_is_not_told(self):
        book = two()
        book.do(("go", "yes"))
        book.back()
        told = read_log(plain, show_log(book))
        self.assertEqual([told, show_log(told), show_log(two())], [two(), show_log(book), show_log(book)])

    def test_none(self):
        code = show_code(fast)
        lines = code.split("\n")
        self.check_none(lambda text: read_log(plain, text), [
            "\n", " ", "go yes", "go yes\n\n", "\ngo yes\n", "go yes\n ", "go yes \n", "go yes\ngo", "go yes\ngo \n", "go yes\n\ngo no\n", "go Yes\n", "version\n",
            "version\n" + code[:-1], "version\n" + code + "\n", "version\n\n" + code, code, "version\n" + "\n".join(lines[:-2]) + "\n",
            "version\n" + code + lines[-2] + "\n", "version\n" + "\n".join(lines[1:]), "version\nversion\n" + code, "version\ncode 0 0 9\nend out ()\n",
            "version\ncode 0 0 " + NINES + "\nend out ()\n", "version\ncode 0 0 " + "9" * 5000 + "\nend out ()\n", "version\ncode 0 0\nend out ()\n", "version\nact a 0 x:0\n",
            "version\nact a 0 x:0\n" * 10 ** 4, "go yes\nbegin 00\n", "begin 0\n" * 300 + "begin", "drop 9\ndrop\n", "a\n" * 10 ** 5, "version\ncode\n", "version\n \n"])
        # What is no text comes ahead of a deed that is refused.
        self.assertEqual(outcome_of(read_log, plain, "drop 0\ndrop 00\n"), NONE)
        self.assertEqual(outcome_of(read_log, plain, "begin 0\n" * 201 + "begin a\n"), NONE)

    def test_broken(self):
        text = show_log(two())
        other = show_code(Code(WORLDS[2], 3, 2, [("end", "bye", ())]))
        for more, at in [("drop 1\n", 2), ("go done\n", 2), ("go yes\ngo yes\n", 3), ("begin 2\n", 2), ("drop -1\n", 2), ("go -1\n", 2), ("begin -" + NINES + "\n", 2),
                         ("go yes\nmove 0 0 1 1 may 2 (0,1)\ngo none\n", 3), ("version\n" + other, 2), (("version\n" + show_code(fast)) * 2, 3),
                         ("move " + NINES + " 0 1 1 must 3 (0,1,2)\n", 2), ("begin 0\n" * 199, 200), ("begin 0\n" * 999 + "drop 5\n", 200)]:
            self.assertEqual(unchanged(self, read_log, plain, text + more), (Broken, {"at": at}))
        self.assertEqual(outcome_of(read_log, fast, "go yes\n"), (Broken, {"at": 0}))
        self.assertEqual(len(read_log(plain, text + "begin 0\n" * 198)), 200)
        great = Code(plain.world, 1, 1, [("set", ((0, nested(150)),), 1), ("set", ((0, nested(150)),), 0)])
        self.assertEqual(outcome_of(read_log, great, "go -\ngo -\n"), (Broken, {"at": 1}))

    def test_there_and_back(self):
        rng = seeded(102)
        taken = 0
        for _ in range(120):
            code = random_code(rng, rng.choice(WORLDS), 2, 1, rng.randrange(1, 4))
            book, second = Book(code), PlainBook(code)
            if not isinstance(outcome_of(book.shown), list):
                continue
            for _ in range(12):
                deed = random_deed(rng, second)
                if outcome_of(second.do, deed) == outcome_of(book.do, deed):
                    self.assertEqual(book.log(), second.log)
            text = show_log(book)
            told = read_log(code, text)
            self.assertEqual([told, told.frame(), told.shown(), told.yard(), show_log(told)], [book, book.frame(), book.shown(), book.yard(), text])
            for _ in range(5):
                changed = self.changed(rng, text)
                found = outcome_of(read_log, code, changed)
                if isinstance(found, Book):
                    self.assertEqual(show_log(found), changed)
                    taken += 1
                else:
                    self.assertIn(found[0], (NoText, Broken))
        self.assertGreater(taken, 20)

    def changed(self, rng, text):
        """The text with some letters changed."""
        at = rng.randrange(len(text) + 1)
        return text[:at] + "".join(rng.choices(LETTERS, k=rng.randrange(3))) + text[at + rng.randrange(3):]


if __name__ == "__main__":
    unittest.main()
