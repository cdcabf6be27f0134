import itertools
import unittest

from framemoves.calm import calm
from framemoves.codes import Code
from framemoves.errors import BadMove, TooMany, Unfit, Unlike
from framemoves.looks import fewest_looks, is_sound, look_yard
from framemoves.recipes import Recipe
from framemoves.trust import doubled, trusting
from framemoves.worlds import World
from framemoves.yards import Yard
from plain import WORLDS, histories_of, random_code
from plain_yards import (all_standings, is_right_history, plain_calm, plain_looks, plain_yard_rounds, random_recipe, random_yard,
                         standing_and_values)
from support import any_values, nested, outcome_of, plain_put, seeded, unchanged
from test_calm import GREAT, great_yard
from test_histories import FAST, PLAIN, TWICE, YARD

WORLD = World({"check": (0, {"ok": 0, "bad": 0}), "work": (1, {"done": 1})})
KEEP = Recipe.keeping(2)
OK = {"check": "ok"}
# A check, work, and then the next check: by then the promise may have fallen.
LINE = Code(WORLD, 2, 1, [("ask", "check", (), (("ok", (), 1), ("bad", (), 5))), ("ask", "work", (0,), (("done", (1,), 2),)),
                          ("ask", "check", (), (("ok", (), 3), ("bad", (), 5))), ("ask", "work", (1,), (("done", (1,), 4),)),
                          ("end", "out", ()), ("end", "bye", ())])
LEAN = trusting(LINE, OK)
FORK = World({"check": (0, {"ok": 0, "bad": 0}), "go": (0, {"a": 0, "b": 0, "c": 0})})


def fork_code():
    """A code with five checks behind acts by which the promise may fall."""
    check = ("ask", "check", (), (("ok", (), 4), ("bad", (), 7)))
    last = ("ask", "check", (), (("ok", (), 7), ("bad", (), 0)))
    return Code(FORK, 2, 2, [("ask", "go", (), (("a", (), 1), ("b", (), 2), ("c", (), 3))), check, check, check,
                             ("ask", "go", (), (("a", (), 5), ("b", (), 6), ("c", (), 7))), last, last, ("end", "out", (0, 1))])


class YardTest(unittest.TestCase):
    def test_by_hand(self):
        looks = [(2, 2, KEEP), (0, 5, Recipe(2, [("c",), 0]))]
        true = doubled(LINE, OK)
        self.assertEqual(unchanged(self, look_yard, LINE, LEAN, OK, looks), Yard(true, [doubled(LEAN, OK), true], [
            (0, 8, 1, 8, KEEP, "must"), (0, 6, 1, 11, Recipe(2, [("c",), 0]), "must")]))
        self.assertEqual(look_yard(LINE, LEAN, OK, []), Yard(true, [doubled(LEAN, OK), true], [], begins=(0,)))

    def test_codes_of_other_sizes(self):
        small = Code(WORLD, 1, 1, [("ask", "work", (0,), (("done", (0,), 1),)), ("end", "out", ())])
        yard = look_yard(LINE, small, OK, [(1, 4, Recipe(1, [0, 0]))])
        self.assertEqual(yard.moves(), [(0, 3, 1, 10, Recipe(1, [0, 0]), "must")])
        self.assertEqual(yard.versions()[0], doubled(small, OK))

    def test_unfit(self):
        dashed = World({"check": (0, {"ok": 0, "bad": 0}), "work": (1, {"done": 1, "done-": 1})})
        wide = World({"check": (0, {"ok": 0, "bad": 0}), "work": (1, {"a": 0, "b": 0, "c": 0, "d": 0})})
        for world in (dashed, wide):
            code = Code(world, 0, 0, [("end", "out", ())])
            for call in (look_yard, fewest_looks):
                self.assertEqual(outcome_of(call, code, code, OK, []), (Unfit, {}))
                self.assertEqual(outcome_of(call, code, LEAN, OK, [(9, 9, KEEP)]), (Unfit, {}))
                self.assertEqual(outcome_of(call, LINE, code, OK, []), (Unfit, {}))
        for promise in any_values() + [{"check": "done"}, {"work": "done"}, {"none": "ok"}]:
            if promise != {}:
                self.assertEqual(outcome_of(look_yard, LINE, LEAN, promise, [(9, 9, KEEP)]), (Unfit, {}))
                self.assertEqual(outcome_of(fewest_looks, LINE, LEAN, promise, [(9, 9, KEEP)], most=1), (Unfit, {}))

    def test_unlike_comes_ahead_of_moves(self):
        other = World({"check": (0, {"ok": 0, "bad": 0}), "work": (0, {"done": 1})})
        for lean in [Code(other, 2, 1, [("end", "out", ())]), Code(WORLD, 2, 2, LEAN.statements()), Code(WORLD, 2, 0, LEAN.statements())]:
            for call in (look_yard, fewest_looks):
                self.assertEqual(unchanged(self, call, LINE, lean, OK, [(9, 9, KEEP)]), (Unlike, {}))

    def test_bad_moves(self):
        for looks, at in [([(6, 0, KEEP)], 0), ([(0, 6, KEEP)], 0), ([(2, 2, KEEP), (0, 99, KEEP)], 1), ([(-1, 0, KEEP)], 0), ([(0, -1, KEEP)], 0),
                          ([(0, 0, Recipe.keeping(3))], 0), ([(0, 0, Recipe(2, [0]))], 0), ([(2, 2, KEEP), (1, 1, KEEP), (0, 0, Recipe(1, [0, 0]))], 2)]:
            for call in (look_yard, fewest_looks):
                self.assertEqual(unchanged(self, call, LINE, LEAN, OK, looks), (BadMove, {"at": at}))

    def test_two_looks_at_one_place(self):
        self.assertEqual(unchanged(self, look_yard, LINE, LEAN, OK, [(2, 2, KEEP), (1, 1, KEEP), (2, 3, KEEP)]), (BadMove, {"at": 2}))


class FewestTest(unittest.TestCase):
    def test_one_is_needed(self):
        looks = [(0, 0, KEEP), (2, 2, KEEP), (4, 4, KEEP)]
        self.assertEqual(calm(look_yard(LINE, LEAN, OK, looks[1:2]))[0], "calm")
        history = [0, "", "done-"]
        self.assertEqual(unchanged(self, fewest_looks, LINE, LEAN, OK, looks), ([[1]], [([], history)]))
        self.assertEqual(fewest_looks(LINE, LEAN, OK, looks[::2]), ([], [([], history), ([0], history), ([0, 1], history), ([1], history)]))

    def test_none_is_needed(self):
        for lean in (LINE, trusting(LINE, {})):
            self.assertEqual(fewest_looks(LINE, lean, {}, [(2, 2, KEEP)]), ([[]], []))
        short = Code(WORLD, 2, 1, [LINE.statement(0)[:3] + ((("ok", (), 1), ("bad", (), 1)),), ("end", "out", (0,))])
        self.assertEqual(fewest_looks(short, trusting(short, OK), OK, [(1, 0, KEEP)]), ([[]], []))
        self.assertEqual(fewest_looks(short, trusting(short, OK), OK, []), ([[]], []))

    def test_none_is_in_time(self):
        self.assertEqual(fewest_looks(LINE, LEAN, OK, []), ([], [([], [0, "", "done-"])]))
        wrong = [(2, 2, Recipe(2, [1, 0])), (2, 4, KEEP)]
        for look in wrong:
            told = fewest_looks(LINE, LEAN, OK, [look])
            self.assertEqual([told[0], [row[0] for row in told[1]]], [[], [[], [0]]])
            for indexes, history in told[1]:
                self.assertIs(is_right_history(look_yard(LINE, LEAN, OK, [look] if indexes else []), history), False)

    def test_five_are_needed(self):
        code = fork_code()
        looks = [(at, at, KEEP) for at in (6, 1, 3, 2, 5)]
        chosen, late = fewest_looks(code, trusting(code, OK), OK, looks)
        self.assertEqual(chosen, [[0, 1, 2, 3, 4]])
        self.assertEqual([row[0] for row in late], sorted(list(row) for size in range(5) for row in itertools.combinations(range(5), size)))
        self.assertEqual(fewest_looks(code, trusting(code, OK), OK, looks[:4])[0], [])

    def test_several_least_sets(self):
        # Either right behind the work or at the check; both of them are in time, too, but are more.
        code = Code(WORLD, 2, 1, LINE.statements()[:1] + [("ask", "work", (0,), (("done", (1,), 6),))] + LINE.statements()[2:] + [("set", ((0, 1),), 2)])
        looks = [(6, 6, KEEP), (4, 4, KEEP), (2, 2, KEEP)]
        chosen, late = fewest_looks(code, trusting(code, OK), OK, looks)
        self.assertEqual([chosen, [row[0] for row in late]], [[[0], [2]], [[]]])

    def test_late_again_with_one_look_more(self):
        # In the first place the look is one too many, since what it makes is not right.
        looks = [(2, 2, KEEP), (3, 3, Recipe(2, [0, ("c",)]))]
        self.assertEqual(fewest_looks(LINE, LEAN, OK, looks)[0], [[0]])
        self.assertEqual(calm(look_yard(LINE, LEAN, OK, looks[:1]))[0], "calm")
        first = Code(WORLD, 2, 1, [("ask", "work", (0,), (("done", (0,), 1),))] + LINE.statements()[1:])
        both = [(2, 2, KEEP), (1, 1, Recipe(2, [("c",), 1]))]
        self.assertEqual([calm(look_yard(first, trusting(first, OK), OK, both[:count]))[0] for count in (1, 2)], ["calm", "parted"])

    def test_limits(self):
        great = (2, 2, Recipe(2, [("c",), nested(30, 1)]))
        self.assertEqual(outcome_of(fewest_looks, LINE, LEAN, OK, [great], most=20), (TooMany, {"limit": 20}))
        self.assertEqual(fewest_looks(LINE, LEAN, OK, [great], most=40)[0], [])
        # The set behind the one that is in time has as many looks, so that it is looked at.
        code = Code(WORLD, 2, 1, LINE.statements()[:2] + [("set", (), 6)] + LINE.statements()[3:] + [LINE.statement(2)])
        both = [(2, 2, KEEP), (6, 6, great[2])]
        self.assertEqual(outcome_of(fewest_looks, code, trusting(code, OK), OK, both, most=20), (TooMany, {"limit": 20}))
        self.assertEqual(fewest_looks(code, trusting(code, OK), OK, both[:1], most=20)[0], [[0]])
        # Alone it is late ahead of what is too great; with the other one it would be too great, but is not looked at.
        looks = [(2, 2, KEEP), (4, 4, Recipe(2, [nested(30), 0]))]
        self.assertEqual(calm_or_great(looks, 20), TooMany)
        self.assertEqual(outcome_of(fewest_looks, LINE, LEAN, OK, looks, most=20), ([[0]], [([], [0, "", "done-"])]))
        ones = [outcome_of(fewest_looks, LINE, LEAN, OK, looks[:1], most=most) for most in range(1, 4)]
        self.assertEqual(ones[2], fewest_looks(LINE, LEAN, OK, looks[:1]))

    def test_exactly_as_many(self):
        code = Code(WORLD, 2, 1, [("set", ((1, nested(6)),), 1)] + [("end", "out", (0,))])
        self.assertEqual(outcome_of(fewest_looks, code, code, OK, [], most=6), (TooMany, {"limit": 6}))
        self.assertEqual(fewest_looks(code, code, OK, [], most=7), ([[]], []))

    def test_new_lists(self):
        told = fewest_looks(LINE, LEAN, OK, [(2, 2, KEEP), (4, 4, KEEP)])
        told[0][0].append(9)
        told[0].clear()
        told[1][0][0].append(9)
        told[1][0][1].clear()
        self.assertEqual(fewest_looks(LINE, LEAN, OK, [(2, 2, KEEP), (4, 4, KEEP)]), ([[0]], [([], [0, "", "done-"])]))

    def test_as_told_a_second_time(self):
        rng = seeded(92)
        kinds = {}
        for _ in range(120):
            code = random_code(rng, rng.choice([WORLD, FORK]), 2, rng.randrange(3), rng.randrange(2, 5), 1)
            promise = {"check": rng.choice(["ok", "bad"])}
            lean = trusting(code, promise)
            looks = [(at, at, random_recipe(rng, 2, 2)) for at in rng.sample(range(len(code)), rng.randrange(min(3, len(code)) + 1))]
            told = outcome_of(fewest_looks, code, lean, promise, looks)
            if told[0] != TooMany:
                self.assertEqual(told[0], self.check(code, lean, promise, looks, told[1]))
                kinds[len(told[0]), len(told[0][0]) if told[0] else 0] = True
        self.assertGreaterEqual(set(kinds), {(0, 0), (1, 0), (1, 1)})

    def check(self, code, lean, promise, looks, late):
        """The sets in time with the fewest looks, told a second time, once the late ones are checked."""
        behind = []
        for size in range(len(looks) + 1):
            chosen = []
            for indexes in itertools.combinations(range(len(looks)), size):
                told = plain_calm(look_yard(code, lean, promise, [looks[at] for at in indexes]))
                if told[0] == "calm":
                    chosen.append(list(indexes))
                else:
                    behind.append((list(indexes), len(told[1])))
            if chosen:
                behind = [row for row in behind if len(row[0]) < size]
                break
        self.assertEqual([(indexes, len(history)) for indexes, history in late], sorted(behind))
        for indexes, history in late:
            self.assertIs(is_right_history(look_yard(code, lean, promise, [looks[at] for at in indexes]), history), False)
        return chosen


def calm_or_great(looks, most):
    """"calm" or "parted" of the yard of looks in LINE, or TooMany."""
    return outcome_of(calm, look_yard(LINE, LEAN, OK, looks), most=most)[0]


class SoundTest(unittest.TestCase):
    def test_by_hand(self):
        for move, sound in [((0, 0, 1, 1, Recipe(3, [0, 1, TWICE]), "may"), True), ((0, 0, 1, 1, Recipe.keeping(3), "may"), False),
                            ((0, 0, 1, 0, Recipe(3, [0, 1, 1]), "may"), True), ((0, 1, 1, 2, Recipe(3, [0, 1, TWICE]), "must"), True),
                            ((0, 1, 1, 2, Recipe.keeping(3), "must"), False), ((0, 2, 1, 2, Recipe.keeping(3), "may"), True),
                            ((0, 0, 0, 0, Recipe(3, [1, 0, 2]), "may"), False), ((1, 3, 0, 3, Recipe(3, [0] * 3), "must"), True),
                            ((0, 0, 0, 3, Recipe.keeping(3), "may"), False), ((1, 1, 0, 0, Recipe.keeping(3), "may"), True)]:
            self.assertIs(unchanged(self, is_sound, YARD, move), sound)

    def test_recipes_of_which_great_terms_come(self):
        # Of each of these recipes twice as great terms come as of the one ahead of it.
        great = Recipe(3, [("g", 0, 0), ("g", 1, 1), ("g", 2, 2)])
        for _ in range(6):
            great = great * great
        self.assertIs(is_sound(YARD, (0, 0, 1, 0, great, "may")), False)
        self.assertIs(is_sound(YARD, (0, 3, 1, 3, great, "may")), True)

    def test_where_nothing_comes(self):
        lone = Code(PLAIN.world, 3, 2, PLAIN.statements() + [("end", "out", (0,))])
        yard = Yard(PLAIN, [lone, FAST], [])
        self.assertIs(is_sound(yard, (0, 4, 0, 2, Recipe.keeping(3), "must")), True)
        self.assertIs(is_sound(yard, (1, 2, 0, 3, Recipe.keeping(3), "must")), True)
        self.assertEqual(outcome_of(is_sound, great_yard(9), (0, 1, 0, 1, KEEP, "may"), most=8), (TooMany, {"limit": 8}))

    def test_errors(self):
        bad = Yard(PLAIN, [PLAIN, FAST], [(0, 0, 1, 1, Recipe.keeping(3), "may")])
        keep = Recipe.keeping(3)
        for yard, at in [(YARD, 4), (bad, 1), (GREAT, 0)]:
            for move in any_values() + [(2, 0, 0, 0, keep, "may"), (0, 4, 0, 0, keep, "may"), (0, 0, 0, 0, KEEP, "may"), (0, 0, 0, 0, keep, "might")]:
                self.assertEqual(outcome_of(is_sound, yard, move, most=1), (BadMove, {"at": at}))
        for kind in ("must", "may"):
            self.assertEqual(outcome_of(is_sound, YARD, (1, 2, 0, 2, keep, kind)), (BadMove, {"at": 4}))
        self.assertEqual(outcome_of(is_sound, YARD, (0, 0, 0, 0, keep, "must")), (BadMove, {"at": 4}))
        self.assertEqual(outcome_of(is_sound, bad, (0, 0, 0, 0, keep, "may")), (Unfit, {}))
        self.assertEqual(outcome_of(is_sound, bad, (0, 0, 0, 0, keep, "may"), most=1), (TooMany, {"limit": 1}))
        move = (0, 0, 0, 0, KEEP, "may")
        self.assertEqual(outcome_of(is_sound, great_yard(9), move, most=8), (TooMany, {"limit": 8}))
        self.assertIs(is_sound(great_yard(9), move, most=9), True)
        code = great_yard(9).true
        self.assertEqual(outcome_of(is_sound, Yard(code, [code], [(0, 0, 0, 0, Recipe(2, [1, 1]), "may")]), move, most=8), (Unfit, {}))

    def test_as_told_a_second_time(self):
        rng = seeded(921)
        found = []
        for _ in range(150):
            yard = random_yard(rng)
            looks, rounds = outcome_of(plain_looks, yard), outcome_of(plain_yard_rounds, yard)
            for _ in range(5):
                at, to = rng.choice(all_standings(yard))[1:], rng.choice(all_standings(yard))[1:]
                widths = [yard.versions()[version].variables for version, _ in (at, to)]
                move = at + to + (random_recipe(rng, *widths), rng.choice(["may", "must"]))
                told = outcome_of(is_sound, yard, move)
                if not isinstance(outcome_of(yard.with_move, move), Yard):
                    self.assertEqual(told, (BadMove, {"at": len(yard.moves())}))
                elif looks[0] != "calm":
                    self.assertEqual(told, (Unfit, {}) if looks[0] == "parted" else looks)
                elif isinstance(rounds, tuple):
                    self.assertEqual(told, rounds)
                else:
                    histories = [history for standing, some in looks[1].items() if standing[1:] == at for history in some]
                    self.assertIs(told, all(self.is_satisfied(yard, rounds[-1], history, move) for history in histories))
                    found.append(told)
                    if told and move[5] == "may":
                        self.check_shown(yard, move)
        self.assertGreater(min(found.count(True), found.count(False)), 40)

    def is_satisfied(self, yard, needs, history, move):
        """Whether the values behind a move behind a history satisfy the needs there."""
        standing, values = standing_and_values(yard, history)
        rows = needs[(standing[0],) + move[2:4]]
        known, own = values[:yard.true.variables], values[yard.true.variables:]
        made = known + tuple(plain_put(term, own) for term in move[4].terms)
        return rows is not None and all(made[unknown] == plain_put(term, made) for unknown, term in rows)

    def check_shown(self, yard, move):
        """That histories in which a sound move is made once are right."""
        more = yard.with_move(move)
        at = len(yard.moves())
        for history in histories_of(more, 4):
            if history.count(at) == 1 and at > 0:
                self.assertIs(outcome_of(is_right_history, more, history) in (True, (TooMany, {"limit": 200})), True)

    def test_looks_in_time_stay_so_with_sound_ones(self):
        rng = seeded(922)
        count = 0
        for _ in range(100):
            code = random_code(rng, rng.choice([WORLD, FORK]), 2, rng.randrange(3), rng.randrange(2, 5), 1)
            lean = trusting(code, OK)
            looks = [(at, at, random_recipe(rng, 2, 2)) for at in rng.sample(range(len(code)), 2)]
            yards = [outcome_of(look_yard, code, lean, OK, looks[:many]) for many in (1, 2)]
            if outcome_of(calm, yards[0])[0] == "calm" and outcome_of(is_sound, yards[0], yards[1].moves()[1]) is True:
                self.assertEqual(calm(yards[1])[0], "calm")
                count += 1
        self.assertGreater(count, 10)


if __name__ == "__main__":
    unittest.main()
