import unittest
import unittest.mock

from framemoves.book import Book
from framemoves.codes import Code
from framemoves.errors import BadMove, Full, NoDeed, NoEntry, Nothing, NoVersion, TooMany, Unfit, Unlike, Wrong
from framemoves.recipes import Recipe
from framemoves.runs import seen
from framemoves.worlds import World
from framemoves.yards import Yard
from plain import WORLDS, random_code
from plain_books import PlainBook, random_deed, told_of
from support import Pleasing, any_values, in_lists, nested, outcome_of, seeded, unchanged
from test_histories import FAST as fast
from test_histories import PLAIN as plain
from test_histories import TWICE

GO = WORLDS[2]
MOVE = (0, 0, 1, 1, Recipe(3, [0, 1, TWICE]), "may")
KEEP = Recipe.keeping(3)


def ways(*tos):
    return tuple((outcome, (), to) for outcome, to in zip("abc", tos))


def book_of(*deeds, true=plain):
    """The Book in which deeds are done."""
    book = Book(true)
    for deed in deeds:
        book.do(deed)
    return book


def two():
    return book_of(("version", fast), ("move", MOVE))


class ExampleTest(unittest.TestCase):
    def test_as_it_stands(self):
        book = Book(plain)
        self.assertEqual(
            [book.do(("version", fast)), book.do(("move", (0, 0, 1, 1, Recipe(3, [0, 1, ("twice", 1)]), "may"))), book.do(("go", 0))],
            [('ask', 'less', (0, 1)), ('ask', 'less', (0, 1)), ('ask', 'less', (0, 1))])
        self.assertEqual(
            [book.frame(), book.do(("go", "yes")), book.is_right(), book.back()],
            [(1, 1, (0, 1, ('twice', 1))), ('ask', 'tell', (('twice', 1),)), True, ('go', 'yes')])


class WrongTest(unittest.TestCase):
    def test_true(self):
        for thing in any_values() + [[plain], (plain,), World({}), Code, Yard(plain, [plain], []), Book(plain)]:
            self.assertEqual(outcome_of(Book, thing), (Wrong, {"place": 0}))


class DeedsTest(unittest.TestCase):
    def check(self, book, deed, error):
        """That a deed is refused with an error, and that nothing is changed."""
        before = told_of(book), len(book)
        self.assertEqual(outcome_of(book.do, deed), error, deed)
        self.assertEqual((told_of(book), len(book)), before)

    def test_no_deeds(self):
        bad = any_values() + [(), ("go",), ("go", "yes", 0), ["go", "yes"], ("Go", "yes"), ("going", 0), ("", 0), (0, "go"), (None, 0), (b"go", 0),
                              (Pleasing(), 0), (Pleasing(), fast), ("go", None), ("go", True), ("go", False), ("go", "Yes"), ("go", "-"), ("go", "yes--"),
                              ("go", "-yes"), ("go", "ninechars"), ("go", " "), ("go", ("yes",)), ("go", ["yes"]), ("go", b"yes"),
                              ("go", Pleasing()), ("go", 1j), ("drop", "0"), ("drop", True), ("drop", None), ("drop", ""), ("drop", (0,)),
                              ("begin", "0"), ("begin", False), ("begin", None), ("begin", [0]), ("version", None), ("version", Code),
                              ("version", [fast]), ("version", Book(plain)), ("version", Pleasing()), ("version", fast, 0), ("versions", fast),
                              ("move", MOVE[:5]), ("move", MOVE + (0,)), ("move", list(MOVE)), ("move", None), ("move", MOVE, 0), MOVE,
                              ("move",) + MOVE, ("move", [MOVE]), in_lists(30), ("move", Pleasing()), ("trial", 0), ("back", 0), fast]
        for at in range(6):
            for thing in any_values() + [Pleasing(), -1, True, KEEP, "may"]:
                fits = [isinstance(thing, int) and not isinstance(thing, bool) and thing >= 0] * 4 + [isinstance(thing, Recipe), thing == "may"
                                                                                                     and isinstance(thing, str)]
                if not fits[at]:
                    bad.append(("move", MOVE[:at] + (thing,) + MOVE[at + 1:]))
        book = two()
        for thing in bad:
            self.assertEqual(outcome_of(book.do, thing), (NoDeed, {}), thing)
        self.assertEqual(told_of(book), told_of(two()))

    def test_versions(self):
        book = Book(plain)
        self.assertEqual(book.do(("version", fast)), ("ask", "less", (0, 1)))
        self.assertEqual(book.yard(), Yard(plain, [plain, fast], [], begins=(0, 1)))
        other = Code(GO, 3, 2, [("end", "bye", ())])
        few = Code(plain.world, 3, 1, plain.statements())
        for code in (other, few):
            self.check(book, ("version", code), (Unlike, {}))
        small = Code(plain.world, 2, 2, [("end", "bye", ())])
        book.do(("version", small))
        self.assertEqual(book.yard().versions(), [plain, fast, small])
        self.check(book, ("version", fast), (Full, {"limit": 3}))
        for code in (other, few):
            self.check(book, ("version", code), (Unlike, {}))
        book.back()
        self.assertEqual(book.do(("version", plain)), ("ask", "less", (0, 1)))

    def test_moves(self):
        book = Book(plain)
        self.check(book, ("move", MOVE), (BadMove, {"at": 0}))
        book.do(("version", fast))
        book.do(("move", MOVE))
        book.do(("move", MOVE))
        self.assertEqual(book.yard().moves(), [MOVE, MOVE])
        for move in [(0, 0, 1, 1, KEEP, "must"), (2, 0, 0, 0, KEEP, "may"), (0, 9, 0, 0, KEEP, "may"), (0, 0, 0, 10 ** 39, KEEP, "may"),
                     (0, 0, 0, 0, Recipe.keeping(2), "may"), (10 ** 39, 0, 0, 0, KEEP, "must")]:
            self.check(book, ("move", move), (BadMove, {"at": 2}))
        self.assertEqual(book.do(("move", (0, 3, 0, 0, KEEP, "must"))), ("ask", "less", (0, 1)))
        # A must move at the place where the frame stands is ahead of what is seen next.
        book = two()
        book.do(("drop", 0))
        self.assertEqual(book.do(("move", (0, 0, 0, 3, KEEP, "must"))), ("end", "bye", ()))
        self.assertEqual([book.frame(), book.shown()], [(0, 0, (0, 1, ("nil",))), [("end", "bye", ())]])

    def test_drops(self):
        book = two()
        book.do(("move", (0, 3, 1, 3, KEEP, "must")))
        for at in (2, -1, 10 ** 39, -10 ** 39):
            self.check(book, ("drop", at), (BadMove, {"at": at}))
        self.assertEqual(book.do(("drop", 0)), ("ask", "less", (0, 1)))
        self.assertEqual(book.yard().moves(), [(0, 3, 1, 3, KEEP, "must")])
        self.check(book, ("drop", 1), (BadMove, {"at": 1}))
        self.check(book, ("go", 1), (Unfit, {}))
        book.do(("drop", 0))
        self.check(book, ("drop", 0), (BadMove, {"at": 0}))
        self.assertEqual(book.yard(), Yard(plain, [plain, fast], [], begins=[0, 1]))

    def test_begins(self):
        book = two()
        book.do(("go", "yes"))
        for version in (2, -1, 10 ** 39, -10 ** 39):
            self.check(book, ("begin", version), (NoVersion, {"number": version}))
        self.assertEqual(book.do(("begin", 1)), ("ask", "less", (0, 1)))
        self.assertEqual([book.frame(), book.outcomes(), book.shown()], [(1, 0, (0, 1, ("nil",))), [], [("ask", "less", (0, 1))]])
        self.assertEqual(book.yard().moves(), [MOVE])
        book.do(("go", ""))
        book.do(("begin", 0))
        self.assertEqual(book.frame(), (0, 0, (0, 1, ("nil",))))

    def test_goes(self):
        book = two()
        for item in ["", "done", "yes-", 1, -1, 10 ** 39]:
            self.check(book, ("go", item), (Unfit, {}))
        self.assertEqual(book.do(("go", "yes")), ("ask", "tell", (TWICE,)))
        self.check(book, ("go", 0), (Unfit, {}))
        self.check(book, ("go", "yes"), (Unfit, {}))
        self.assertEqual(book.do(("go", "")), ("ask", "tell", (TWICE,)))
        self.assertEqual(book.do(("go", "done")), ("ask", "less", (0, 1)))
        self.assertEqual(book.do(("go", 0)), ("ask", "less", (0, 1)))
        self.assertEqual([book.frame(), book.outcomes()], [(1, 1, (0, 1, TWICE)), ["yes", "done"]])
        self.assertEqual(book.do(("go", "no")), ("end", "bye", ()))
        self.check(book, ("go", ""), (Unfit, {}))
        self.assertEqual(book.shown(), [("ask", "less", (0, 1)), ("ask", "tell", (TWICE,)), ("ask", "less", (0, 1)), ("end", "bye", ())])

    def test_must_moves_alone_can_come(self):
        book = two()
        book.do(("move", (0, 1, 0, 3, KEEP, "must")))
        book.do(("go", "yes"))
        self.check(book, ("go", ""), (Unfit, {}))
        self.assertEqual(book.do(("go", 1)), ("end", "bye", ()))

    def test_unknowns_are_numbered_on(self):
        code = Code(WORLDS[1], 3, 1, [("ask", "get", (), (("one", (1,), 1), ("two", (0, 2), 1))), ("ask", "put", (1, 2), (("done", (), 0),))])
        book = book_of(("version", code), ("go", "two"), ("move", (0, 1, 1, 1, Recipe(3, [1, 2, 0]), "may")), ("go", 0), ("go", "done"), true=code)
        self.assertEqual(book.do(("go", "one")), ("ask", "put", (3, 1)))
        self.assertEqual(book.frame(), (1, 1, (("nil",), 3, 1)))
        book.do(("begin", 1))
        self.assertEqual(book.do(("go", "one")), ("ask", "put", (1, ("nil",))))

    def test_shown_stays_if_the_yard_changes(self):
        book = two()
        book.do(("go", 0))
        book.do(("go", "yes"))
        book.do(("drop", 0))
        self.assertEqual([book.shown(), book.frame(), book.is_right()],
                         [[("ask", "less", (0, 1)), ("ask", "tell", (TWICE,))], (1, 2, (0, 1, TWICE)), True])

    def test_silent(self):
        code = Code(GO, 0, 0, [("ask", "go", (), ways(1, 0, 0)), ("set", (), 1)])
        book = book_of(true=code)
        self.assertEqual(book.do(("go", "a")), ("silent",))
        self.assertEqual(book.do(("go", "")), ("silent",))
        self.assertEqual([book.shown(), book.is_right()], [[("ask", "go", ()), ("silent",)], True])


class TooManyTest(unittest.TestCase):
    def code(self, many):
        rows = [("ask", "go", (), ways(1, 2, 3)), ("set", ((0, nested(many)),), 3), ("set", (), 1), ("end", "out", (0,)), ("end", "bye", (0,))]
        return Code(GO, 1, 1, rows)

    def test_behind_a_deed(self):
        error = (TooMany, {"limit": 200})
        for many, told in [(200, ("end", "out", (nested(200),))), (201, error)]:
            book = Book(self.code(many))
            # What comes next counts, too: a set behind the outcome, and one behind a set.
            self.assertEqual(outcome_of(book.do, ("go", "a")), told)
            self.assertEqual(outcome_of(book.do, ("go", "b")) if many > 200 else told, told)
            self.assertEqual(len(book), 0 if many > 200 else 1)
            self.assertEqual(book.frame()[1], 0 if many > 200 else 1)
        book = Book(self.code(150))
        self.assertEqual(book.do(("go", "a")), ("end", "out", (nested(150),)))
        self.assertEqual(book.do(("go", "")), ("end", "out", (nested(150),)))
        self.assertEqual(outcome_of(book.do, ("move", (0, 3, 0, 4, Recipe(1, [nested(60, 0)]), "must"))), error)
        self.assertEqual(len(book), 2)

    def test_by_moves(self):
        error = (TooMany, {"limit": 200})
        book = Book(self.code(3))
        great, small = Recipe(1, [nested(201)]), Recipe(1, [nested(200)])
        book.do(("move", (0, 0, 0, 3, great, "may")))
        self.assertEqual(outcome_of(book.do, ("go", 0)), error)
        book.do(("move", (0, 0, 0, 3, small, "may")))
        self.assertEqual(book.do(("go", 1)), ("end", "out", (nested(200),)))
        self.assertEqual(book.frame(), (0, 3, (nested(200),)))
        book.do(("begin", 0))
        book.do(("drop", 0))
        book.do(("drop", 0))
        # Whatever is done, what is seen next behind it must not be too great.
        self.assertEqual(outcome_of(book.do, ("move", (0, 0, 0, 3, great, "must"))), error)
        self.assertEqual(book.yard().moves(), [])

    def test_from_the_beginning(self):
        code = Code(GO, 1, 1, [("set", ((0, nested(201)),), 1), ("end", "out", ())])
        book = Book(code)
        for deed in [("version", code), ("begin", 0), ("go", ""), ("move", (0, 1, 0, 1, Recipe.keeping(1), "may"))]:
            self.assertEqual(outcome_of(book.do, deed), (TooMany, {"limit": 200}))
        self.assertEqual(outcome_of(book.do, ("go", "a")), (Unfit, {}))
        self.assertEqual(outcome_of(book.do, ("drop", 0)), (BadMove, {"at": 0}))
        self.assertEqual([book.log(), book.frame(), outcome_of(book.shown)], [[], (0, 0, (0,)), (TooMany, {"limit": 200})])
        self.assertEqual(book.do(("move", (0, 0, 0, 1, Recipe.keeping(1), "must"))), ("end", "out", ()))

    def test_200_deeds(self):
        book = two()
        for at in range(198):
            book.do(("begin", at % 2))
        self.assertEqual(len(book), 200)
        for deed in [("begin", 0), ("begin", 9), ("go", "none"), ("drop", 9), ("version", Code(GO, 0, 0, [("end", "out", ())]))]:
            self.assertEqual(outcome_of(book.do, deed), (Full, {"limit": 200}))
        for deed in [("begin", None), None, ("go", "Yes")]:
            self.assertEqual(outcome_of(book.do, deed), (NoDeed, {}))
        self.assertEqual(len(book.log()), 200)
        book.back()
        self.assertEqual(book.do(("go", "no")), ("end", "bye", ()))
        self.assertEqual(outcome_of(book.do, ("begin", 0)), (Full, {"limit": 200}))


class UndoTest(unittest.TestCase):
    def test_over_several_deeds(self):
        deeds = [("version", fast), ("move", MOVE), ("go", 0), ("go", "yes"), ("drop", 0), ("begin", 1), ("go", "")]
        book = Book(plain)
        states = [told_of(book)]
        for deed in deeds:
            book.do(deed)
            states.append(told_of(book))
        self.assertEqual(outcome_of(book.again), (Nothing, {}))
        for _ in range(2):
            for at in range(len(deeds) - 1, -1, -1):
                self.assertEqual(book.back(), deeds[at])
                self.assertEqual(told_of(book), states[at])
            self.assertEqual(outcome_of(book.back), (Nothing, {}))
            for at, deed in enumerate(deeds):
                self.assertEqual(book.again(), deed)
                self.assertEqual(told_of(book), states[at + 1])
            self.assertEqual(outcome_of(book.again), (Nothing, {}))

    def test_behind_deeds(self):
        for deed in [("go", "no"), ("go", "yes")]:
            book = two()
            book.do(("go", "yes"))
            book.back()
            book.do(deed)
            self.assertEqual(outcome_of(book.again), (Nothing, {}))
            self.assertEqual(book.log()[-1], deed)

    def test_behind_a_deed_that_is_refused(self):
        book = two()
        book.do(("go", "yes"))
        book.back()
        for deed in [None, ("go", "done"), ("begin", 9), ("version", Code(GO, 0, 0, [("end", "out", ())]))]:
            self.assertIsInstance(outcome_of(book.do, deed)[0], type)
        self.assertEqual([book.again(), book.outcomes()], [("go", "yes"), ["yes"]])

    def test_nothing(self):
        book = Book(plain)
        self.assertEqual([outcome_of(book.back), outcome_of(book.again), len(book)], [(Nothing, {}), (Nothing, {}), 0])


class UntilTest(unittest.TestCase):
    def test_so_many(self):
        deeds = [("version", fast), ("move", MOVE), ("go", 0), ("go", "yes")]
        book = book_of(*deeds)
        for many in range(5):
            told = book.until(many)
            self.assertEqual(told_of(told), told_of(book_of(*deeds[:many])))
            self.assertEqual([told, len(told), outcome_of(told.again)], [book_of(*deeds[:many]), many, (Nothing, {})])
        for many in (5, -1, 10 ** 39):
            self.assertEqual(outcome_of(book.until, many), (NoEntry, {"many": many}))
        self.assertEqual(outcome_of(Book(plain).until, 1), (NoEntry, {"many": 1}))
        self.assertEqual(len(Book(plain).until(0)), 0)

    def test_it_is_another_book(self):
        book = two()
        book.do(("go", "yes"))
        other = book.until(2)
        other.do(("go", "no"))
        other.back()
        other.back()
        book.back()
        self.assertEqual([len(book), len(other), book.again()], [2, 1, ("go", "yes")])
        self.assertEqual(outcome_of(Book(plain).until(0).back), (Nothing, {}))


class TrialTest(unittest.TestCase):
    def test_what_is_returned(self):
        book = two()
        before = told_of(book)
        self.assertEqual(book.trial(lambda other: [other.do(("go", "yes")), other.outcomes(), other is book]),
                         [("ask", "tell", (TWICE,)), ["yes"], True])
        self.assertEqual([told_of(book), outcome_of(book.again)], [before, (Nothing, {})])
        self.assertIsNone(book.trial(lambda other: None))

    def test_errors_go_on(self):
        book = two()
        book.do(("go", 0))
        book.back()
        before = told_of(book)

        def spoil(kind):
            def act(other):
                other.back()
                other.do(("begin", 1))
                raise kind("told")
            return act
        for kind in (KeyError, ZeroDivisionError, KeyboardInterrupt, StopIteration, ValueError, SystemExit):
            with self.assertRaises(kind):
                book.trial(spoil(kind))
            self.assertEqual(told_of(book), before)
        with self.assertRaises(Unfit):
            book.trial(lambda other: [other.do(("go", "yes")), other.do(("go", "yes"))])
        with self.assertRaises(NoDeed):
            book.trial(lambda other: other.do(None))
        self.assertEqual([told_of(book), book.again()], [before, ("go", 0)])

    def test_nested(self):
        book = two()
        before = told_of(book)

        def inner(other):
            other.back()
            other.do(("begin", 0))
            return len(other.log())

        def outer(other):
            other.do(("go", "yes"))
            middle = told_of(other)
            self.assertEqual(other.trial(inner), 3)
            self.assertEqual(told_of(other), middle)
            self.assertRaises(ZeroDivisionError, other.trial, lambda more: [more.back(), 1 // 0])
            self.assertEqual(told_of(other), middle)
            return other.outcomes()
        self.assertEqual(book.trial(outer), ["yes"])
        self.assertEqual(told_of(book), before)

    def test_undo_and_redo(self):
        book = two()
        book.do(("go", "yes"))
        book.back()
        before = told_of(book)
        self.assertEqual(book.trial(lambda other: [other.again(), other.back(), other.back(), other.back(), other.again()]),
                         [("go", "yes"), ("go", "yes"), ("move", MOVE), ("version", fast), ("version", fast)])
        self.assertEqual(told_of(book), before)
        book.trial(lambda other: other.do(("go", "no")))
        self.assertEqual(book.again(), ("go", "yes"))
        self.assertEqual(outcome_of(book.again), (Nothing, {}))


class RightTest(unittest.TestCase):
    def test_runs_and_none(self):
        book = book_of(("version", fast), ("move", (0, 0, 1, 1, KEEP, "may")))
        self.assertIs(book.is_right(), True)
        book.do(("go", 0))
        self.assertIs(book.is_right(), True)
        book.do(("go", "yes"))
        self.assertIs(book.is_right(), False)
        other = Code(plain.world, 2, 2, [("ask", "tell", (0,), (("done", (), 0),))])
        book = book_of(("version", other), ("begin", 1))
        self.assertIs(book.is_right(), False)
        book.do(("go", "done"))
        self.assertIs(book.is_right(), False)
        self.assertEqual(outcome_of(seen, plain, book.outcomes())[1], {"at": 0})

    def test_values_of_the_true_code_that_are_too_great(self):
        true = Code(GO, 1, 1, [("ask", "go", (), ways(1, 0, 0)), ("set", ((0, nested(201)),), 2), ("end", "out", ())])
        lean = Code(GO, 1, 1, [("ask", "go", (), ways(1, 0, 0)), ("end", "out", ())])
        book = book_of(("version", lean), ("begin", 1), ("go", "a"), true=true)
        self.assertEqual(outcome_of(book.is_right), (TooMany, {"limit": 200}))


class BookTest(unittest.TestCase):
    def test_equal(self):
        one = two()
        other = two()
        other.do(("go", 0))
        other.back()
        self.assertTrue(one == other and not one != other)
        same = book_of(("version", Code(fast.world, 3, 2, fast.statements())), ("move", MOVE[:4] + (Recipe(3, (0, 1, TWICE)), "may")))
        self.assertTrue(one == same and not one != same)
        self.assertTrue(Book(plain) != Book(fast) and Book(plain) == Book(plain))
        for more in [Book(plain), Book(fast), one.until(1), book_of(("version", fast), ("move", MOVE), ("begin", 0)),
                     book_of(("version", plain), ("move", MOVE)), book_of(("version", plain), ("move", MOVE), true=fast)]:
            self.assertTrue(one != more and not one == more)
        for thing in any_values() + [plain, one.yard(), one.log(), unittest.mock.ANY]:
            self.assertIs(one == thing, False)
            self.assertIs(one != thing, True)

    def test_what_is_returned_is_new(self):
        book = two()
        book.do(("go", "yes"))
        before = told_of(book)
        book.log().clear()
        book.outcomes().append("done")
        book.shown().clear()
        book.yard().moves().clear()
        book.yard().versions().clear()
        self.assertEqual(told_of(book), before)
        self.assertEqual(unchanged(self, book.shown), before[3])

    def test_two_books_by_turns(self):
        one, other = two(), Book(fast)
        for _ in range(3):
            self.assertEqual(one.do(("go", "yes")), ("ask", "tell", (TWICE,)))
            self.assertEqual(other.do(("go", "")), ("ask", "less", (0, 1)))
            self.assertEqual([len(one), len(other), one.frame()[0], other.frame()], [3, 1, 0, (0, 1, (0, 1, TWICE))])
            self.assertEqual([one.back(), other.back()], [("go", "yes"), ("go", "")])


class SecondTest(unittest.TestCase):
    def test_as_told_a_second_time(self):
        rng = seeded(100)
        kinds = {}
        for _ in range(120):
            code = random_code(rng, rng.choice(WORLDS), rng.randrange(2, 4), rng.randrange(3), rng.randrange(1, 5), rng.choice([1, 2, 6]))
            book, second = Book(code), PlainBook(code)
            if not isinstance(outcome_of(book.shown), list):
                continue
            for _ in range(25):
                how = rng.random()
                if how < 0.12 and second.log:
                    self.assertEqual(book.back(), second.log[-1])
                    second.undone, second.log = second.undone + second.log[-1:], second.log[:-1]
                elif how < 0.2:
                    told = outcome_of(book.again)
                    self.assertEqual(told, second.undone[-1] if second.undone else (Nothing, {}))
                    second.log, second.undone = second.log + second.undone[-1:], second.undone[:-1]
                else:
                    deed = random_deed(rng, second)
                    told = outcome_of(book.do, deed)
                    self.assertEqual(told, outcome_of(second.do, deed))
                    kinds[told[0]] = True
                self.assertEqual(outcome_of(told_of, book), outcome_of(second.all_told))
                self.assertEqual(len(book), len(second.log))
        self.assertGreaterEqual(set(kinds), {Unfit, BadMove, NoVersion, Full, "ask", "end", "silent"})


if __name__ == "__main__":
    unittest.main()
