import itertools
import unittest

from framemoves.codes import Code
from framemoves.errors import NoPlace, TooMany, Unlike
from framemoves.keeps import are_enough, cheapest, is_bar, is_cheapest, least_bars, least_keeps
from framemoves.moves import recipe_for
from framemoves.worlds import World
from plain import WORLDS, random_code, varied
from support import Pleasing, any_values, in_lists, nested, outcome_of, seeded, unchanged

WORLD = World({"less": (2, {"yes": 0, "no": 0}), "tell": (1, {"done": 0})})
PLAIN = Code(WORLD, 3, 2, [("ask", "less", (0, 1), (("no", (), 3), ("yes", (), 1))), ("set", ((2, ("twice", 1)),), 2),
                           ("ask", "tell", (2,), (("done", (), 0),)), ("end", "bye", ())])
FAST = Code(WORLD, 3, 2, [("set", ((2, ("twice", 1)),), 1), ("ask", "less", (0, 1), (("no", (), 3), ("yes", (), 2))),
                          ("ask", "tell", (2,), (("done", (), 1),)), ("end", "bye", ())])
PAIRS = [(0, FAST, 1)]
GO = WORLDS[2]
SHOW = Code(GO, 1, 1, [("end", "out", (0,)), ("end", "bye", (0,)), ("end", "all", (0,)), ("end", "far", ())])


def eight(*copies, shown=((0,), (1,), (2,))):
    """A code of eight variables; at place 1 those of each tuple of copies have the value of its first variable."""
    changes = tuple((at, group[0]) for group in copies for at in group[1:])
    words = ("out", "bye", "all")
    ends = [("end", word, terms) for word, terms in zip(words, shown)]
    return Code(GO, 8, 8, [("set", changes, 1), ("ask", "go", (), (("a", (), 2), ("b", (), 3), ("c", (), 4)))] + ends)


def every_list(many):
    """All ascending lists of different variables."""
    return [list(part) for length in range(many + 1) for part in itertools.combinations(range(many), length)]


def told_plainly(one, pairs, prices):
    """What recipe_for, asked for each keep, makes of the keeps: those that are enough, least keeps, least bars, the cheapest."""
    lists = every_list(one.variables)
    enough = [keep for keep in lists
              if all(recipe_for(one, p, other, q, keep=keep)[0] == "move" for p, other, q in pairs)]
    bars = [bar for bar in lists if [at for at in range(one.variables) if at not in bar] not in enough]
    least = [sorted(row for row in rows if not any([at for at in row if at != out] in rows for out in row))
             for rows in (enough, bars)]
    price, keep = min(((sum(prices[at] for at in keep), keep) for keep in enough), default=(None, None))
    return enough, bars, least[0], least[1], None if price is None else (price, keep, least[1])


class ExampleTest(unittest.TestCase):
    def test_as_it_stands(self):
        self.assertEqual(cheapest(PLAIN, [(0, FAST, 1)], [2, 2, 1]), (4, [0, 1], [[0], [1]]))
        self.assertEqual(least_keeps(PLAIN, [(2, FAST, 2), (3, FAST, 3)]), [[0, 1]])


class KeepsTest(unittest.TestCase):
    def test_no_pairs(self):
        self.assertEqual([least_keeps(PLAIN, []), least_bars(PLAIN, []), cheapest(PLAIN, [], [1, 1, 1])],
                         [[[]], [], (0, [], [])])
        self.assertIs(are_enough(PLAIN, [], []), True)
        self.assertIs(is_bar(PLAIN, [], [0, 1, 2]), False)
        great = Code(GO, 1, 1, [("set", ((0, nested(201)),), 1), ("end", "out", ())])
        self.assertEqual(least_keeps(great, [], most=1), [[]])

    def test_all_variables_are_not_enough(self):
        for pairs in ([(2, FAST, 1)], [(0, FAST, 1), (2, FAST, 1)]):
            self.assertEqual([least_keeps(PLAIN, pairs), least_bars(PLAIN, pairs), cheapest(PLAIN, pairs, [1, 2, 3])],
                             [[], [[]], None])
            self.assertIs(are_enough(PLAIN, pairs, None), False)
            self.assertIs(are_enough(PLAIN, pairs, [0, 1, 2]), False)
            self.assertIs(is_bar(PLAIN, pairs, []), True)

    def test_a_place_that_is_not_reached(self):
        one = Code(GO, 2, 2, [("end", "out", (0,)), ("end", "bye", (1,))])
        self.assertEqual([least_keeps(one, [(1, SHOW, 0)]), least_bars(one, [(1, SHOW, 0)])], [[[]], []])
        self.assertEqual(least_keeps(one, [(1, SHOW, 0), (0, SHOW, 0)]), [[0]])

    def test_enough(self):
        for keep, enough in [(None, True), ([0, 1], True), ([0, 1, 2], True), ([], False), ([0], False), ([1], False),
                             ([2], False), ([0, 2], False), ([1, 2], False)]:
            self.assertIs(unchanged(self, are_enough, PLAIN, PAIRS, keep), enough)

    def test_several_pairs_over_several_codes(self):
        one = eight((0, 5), (1, 6))
        other = Code(GO, 2, 2, [("end", "out", (("f", 0, 1),)), ("end", "bye", (0,)), ("end", "all", ()), ("end", "far", ())])
        self.assertEqual(least_keeps(one, [(2, SHOW, 0)]), [[0], [5]])
        self.assertEqual(least_keeps(one, [(2, SHOW, 0), (3, SHOW, 1)]), [[0, 1], [0, 6], [1, 5], [5, 6]])
        self.assertEqual(least_keeps(one, [(2, SHOW, 0), (3, SHOW, 1), (4, SHOW, 2)]),
                         [[0, 1, 2], [0, 2, 6], [1, 2, 5], [2, 5, 6]])
        self.assertEqual(least_keeps(one, [(3, other, 1), (2, SHOW, 0), (3, other, 1)]), [[0, 1], [0, 6], [1, 5], [5, 6]])
        self.assertEqual(least_keeps(one, [(2, other, 0)]), [])
        self.assertEqual(least_bars(one, [(2, SHOW, 0), (3, SHOW, 1), (4, SHOW, 2)]), [[0, 5], [1, 6], [2]])

    def test_eight_variables(self):
        one = eight((0, 1, 2, 3, 4, 5, 6, 7))
        self.assertEqual(least_keeps(one, [(2, SHOW, 0)]), [[at] for at in range(8)])
        self.assertEqual(least_bars(one, [(2, SHOW, 0)]), [list(range(8))])
        self.assertEqual(cheapest(one, [(2, SHOW, 0)], [5, 4, 3, 2, 2, 3, 4, 5]), (2, [3], [list(range(8))]))
        self.assertEqual(cheapest(one, [(2, SHOW, 0)], [7] * 8), (7, [0], [list(range(8))]))
        one = eight((0, 4), (1, 5), (2, 6), (3, 7), shown=((("h", 0, 1, ("g", 2, 3)),), (0,), (1,)))
        self.assertEqual(len(least_keeps(one, [(2, one, 2)])), 16)
        self.assertEqual(least_bars(one, [(2, one, 2)]), [[0, 4], [1, 5], [2, 6], [3, 7]])
        self.assertEqual(cheapest(one, [(2, one, 2)], [3, 1, 2, 2, 1, 3, 2, 3]),
                         (6, [1, 2, 3, 4], [[0, 4], [1, 5], [2, 6], [3, 7]]))

    def test_values_that_are_built(self):
        one = Code(GO, 4, 2, [("set", ((2, ("f", 0)), (3, ("g", ("f", 0), 1))), 1), ("end", "out", (3,))])
        self.assertEqual(least_keeps(one, [(1, SHOW, 0)]), [[0, 1], [1, 2], [3]])
        self.assertEqual(least_bars(one, [(1, SHOW, 0)]), [[0, 2, 3], [1, 3]])
        for prices, price, keep in [([1, 1, 1, 1], 1, [3]), ([1, 1, 1, 2], 2, [0, 1]), ([2, 1, 1, 2], 2, [1, 2]),
                                    ([2, 1, 1, 3], 2, [1, 2]), ([3, 3, 3, 9], 6, [0, 1]), ([3, 3, 1, 4], 4, [1, 2])]:
            self.assertEqual(cheapest(one, [(1, SHOW, 0)], prices), (price, keep, [[0, 2, 3], [1, 3]]))

    def test_values_within_kept_values_are_not_kept(self):
        rows = [("ask", "go", (), (("a", (), 1), ("b", (), 2), ("c", (), 2)))]
        rows += [("set", ((0, ("f", (word,))), (1, second)), 3) for word, second in [("c", ("c",)), ("d", ("c",))]]
        one = Code(GO, 2, 2, rows + [("end", "out", (0,))])
        last = Code(GO, 1, 1, [("end", "out", (("f", 0),))])
        self.assertEqual([least_keeps(one, [(3, last, 0)]), least_bars(one, [(3, last, 0)])], [[], [[]]])
        self.assertIs(are_enough(one, [(3, last, 0)], [0, 1]), False)
        self.assertEqual(least_keeps(one, [(1, last, 0), (2, last, 0)]), [[]])
        rows[2] = ("set", ((0, ("f", ("d",))), (1, ("d",))), 3)
        one = Code(GO, 2, 2, rows + [("end", "out", (0,))])
        self.assertEqual([least_keeps(one, [(3, last, 0)]), least_bars(one, [(3, last, 0)])], [[[1]], [[1]]])

    def test_as_told_a_second_time(self):
        rng = seeded(63)
        kinds = {}
        for _ in range(120):
            one = random_code(rng, rng.choice(WORLDS), rng.randrange(2, 5), 2, rng.randrange(1, 4), 1)
            others = [one, varied(rng, one)]
            pairs = [(rng.randrange(len(one)), rng.choice(others), rng.randrange(len(one))) for _ in range(rng.randrange(1, 3))]
            if rng.random() < 0.6:
                pairs = [(p, other, p) for p, other, _ in pairs]
            prices = [rng.randrange(1, 4) for _ in range(one.variables)]
            told = outcome_of(told_plainly, one, pairs, prices)
            if told[0] == TooMany:
                self.assertEqual(outcome_of(least_keeps, one, pairs), told)
                continue
            enough, bars, keeps, least, best = told
            self.assertEqual(unchanged(self, least_keeps, one, pairs), keeps)
            self.assertEqual(unchanged(self, least_bars, one, pairs), least)
            self.assertEqual(unchanged(self, cheapest, one, pairs, prices), best)
            for some in every_list(one.variables):
                self.assertIs(are_enough(one, pairs, some), some in enough)
                self.assertIs(is_bar(one, pairs, some), some in bars)
            if best is not None:
                self.assertIs(is_cheapest(one, pairs, prices, best), True)
            kinds[len(keeps)] = True
        self.assertGreaterEqual(set(kinds), {0, 1})


class IsBarTest(unittest.TestCase):
    def test_bars(self):
        for thing, bar in [([0], True), ([1], True), ([2], False), ([], False), ([0, 1], True), ([0, 2], True),
                           ([0, 1, 2], True), ([1, 0], False), ([0, 0], False), ([0, 1, 1], False), ([2, 2], False)]:
            self.assertIs(unchanged(self, is_bar, PLAIN, PAIRS, thing), bar)

    def test_any_value(self):
        for thing in any_values() + [(0,), [3], [0, 3], [-1], [-1, 0], [True], [False, 1], [0, Pleasing()], [[0]], "0", {0: 0},
                                     in_lists(30), list(range(9000)), [10 ** 39]]:
            self.assertIs(is_bar(PLAIN, PAIRS, thing), False, thing)
        self.assertIs(is_bar(PLAIN, [(2, FAST, 1)], []), True)


class IsCheapestTest(unittest.TestCase):
    PRICES = [2, 2, 1]

    def check(self, thing, holds, pairs=PAIRS, prices=None, one=PLAIN):
        self.assertIs(unchanged(self, is_cheapest, one, pairs, prices or self.PRICES, thing), holds, thing)

    def test_bars_that_show_it(self):
        self.check((4, [0, 1], [[0], [1]]), True)
        self.check((4, [0, 1], [[1], [0]]), True)
        self.check((4, [0, 1], [[1], [0], [0, 2], [1], [0, 1, 2]]), True)
        for bars in ([], [[0]], [[1]], [[0, 1]], [[0, 2], [1]], [[0], [1, 2]], [[0, 1, 2], [0, 2], [1, 2]]):
            self.check((4, [0, 1], bars), False)
        # The third variable costs as much as two others.
        self.check((4, [0, 1], [[0, 2], [1, 2]]), False)
        self.check((4, [0, 1], [[0, 2], [1, 2]]), True, prices=[2, 2, 4])
        self.check((4, [0, 1], [[0, 2], [1, 2]]), False, prices=[2, 2, 3])

    def test_other_keeps_and_prices(self):
        for thing in [(5, [0, 1, 2], [[0], [1]]), (4, [0, 1, 2], [[0], [1]]), (5, [0, 1], [[0], [1]]), (3, [0, 1], [[0], [1]]),
                      (3, [0, 2], [[0], [1]]), (0, [], [[0], [1]]), (4, [1, 0], [[0], [1]]), (4, None, [[0], [1]]),
                      (4, (0, 1), [[0], [1]]), (4, [0, 1], [[0], [1], [2]]), (4, [0, 1], [[0], [1], []]),
                      (4, [0, 1], [[0], [1], [1, 0]]), (4, [0, 1], [[0], [1], (0,)]), (4, [0, 1], ([0], [1])),
                      (4, [0, 1], [[0], [1], None]), (4, [0, 1], [0, 1]), [4, [0, 1], [[0], [1]]], (4, [0, 1]),
                      (4, [0, 1], [[0], [1]], 0), (4, [0, 3], [[0], [1]]), (4, [0, 1], [[0], [1], [3]])]:
            self.check(thing, False)

    def test_none_is_enough(self):
        self.check((5, [0, 1, 2], [[]]), False, pairs=[(2, FAST, 1)])
        self.check((0, [], []), False, pairs=[(2, FAST, 1)])
        self.check((0, [], []), True, pairs=[])
        self.check((0, [], []), True, pairs=[(3, FAST, 3)])
        self.check((False, [], []), False, pairs=[])

    def test_several_that_are_the_cheapest(self):
        one = eight((0, 5), (1, 6))
        pairs, prices = [(2, SHOW, 0), (3, SHOW, 1)], [3, 1, 1, 1, 1, 3, 1, 1]
        self.assertEqual(cheapest(one, pairs, prices), (4, [0, 1], [[0, 5], [1, 6]]))
        for keep in ([0, 1], [0, 6], [1, 5], [5, 6]):
            self.check((4, keep, [[1, 6], [0, 5]]), True, pairs, prices, one)
            self.check((4, keep, [[0, 5], [0, 1, 5, 6]]), False, pairs, prices, one)

    def test_any_value(self):
        for thing in any_values() + [(4, Pleasing(), Pleasing()), (Pleasing(), [0, 1], [[0], [1]]), (4, [0, 1], Pleasing()),
                                     (4, [0, 1], [Pleasing()]), (True, [0, 1], [[0], [1]]), in_lists(30), (4, [0, 1], in_lists(28)),
                                     (4, [0, True], [[0], [1]]), (4, [False, 1], [[0], [1]])]:
            self.assertIs(is_cheapest(PLAIN, PAIRS, self.PRICES, thing), False, thing)
        self.assertIs(is_cheapest(PLAIN, PAIRS, self.PRICES, (4, [0, 1], [[0], [1]] * 4000)), True)

    def test_great_prices(self):
        far = 10 ** 39
        self.assertEqual(cheapest(PLAIN, PAIRS, [far, far, 1]), (2 * far, [0, 1], [[0], [1]]))
        self.check((2 * far, [0, 1], [[0], [1]]), True, prices=[far, far, 1])
        self.check((2 * far - 1, [0, 1], [[0], [1]]), False, prices=[far, far, 1])


class ErrorsTest(unittest.TestCase):
    def calls(self):
        return [(are_enough, ([0],)), (least_keeps, ()), (least_bars, ()), (cheapest, ([1, 1, 1],)), (is_bar, (None,)),
                (is_bar, ([0],)), (is_cheapest, ([1, 1, 1], None))]

    def test_the_first_pair_that_does_not_fit(self):
        for pairs, error in [([(0, FAST, 1), (4, FAST, 4)], (NoPlace, {"place": 4})),
                             ([(0, FAST, 1), (0, FAST, -1), (0, SHOW, 0)], (NoPlace, {"place": -1})),
                             ([(0, FAST, 1), (0, SHOW, 0), (9, FAST, 0)], (Unlike, {})),
                             ([(9, SHOW, 9)], (Unlike, {})), ([(9, FAST, 7)], (NoPlace, {"place": 9})),
                             ([(0, FAST, 7), (9, FAST, 7)], (NoPlace, {"place": 7}))]:
            for call, more in self.calls():
                self.assertEqual(unchanged(self, call, PLAIN, pairs, *more, most=1), error)

    def test_too_many(self):
        for call, more in self.calls():
            great = Code(WORLD, 3, 2, FAST.statements() + [("set", ((0, nested(9)),), 3)])
            for pairs in ([(0, great, 1)], [(0, FAST, 1), (0, great, 1)], [(0, great, 1), (0, FAST, 1)]):
                self.assertEqual(unchanged(self, call, PLAIN, pairs, *more, most=8), (TooMany, {"limit": 8}))
                self.assertNotEqual(outcome_of(call, PLAIN, pairs, *more, most=9), (TooMany, {"limit": 9}))

    def test_new_lists_are_returned(self):
        one = eight((0, 5), (1, 6))
        pairs = [(2, SHOW, 0), (3, SHOW, 1)]
        for call, more in [(least_keeps, ()), (least_bars, ()), (cheapest, ([1] * 8,))]:
            told = call(one, pairs, *more)
            rows = told if isinstance(told, list) else told[2] + [told[1]]
            self.assertEqual(len({id(row) for row in rows}), len(rows))
            before = [list(row) for row in rows]
            for row in rows:
                row.append(9)
            rows.clear()
            again = call(one, pairs, *more)
            self.assertEqual(again if isinstance(again, list) else again[2] + [again[1]], before)


if __name__ == "__main__":
    unittest.main()
