import unittest

from framemoves.codes import Code
from framemoves.errors import TooMany, Unfit
from framemoves.runs import is_run, seen
from framemoves.trust import doubled, doubled_world, trusting
from framemoves.worlds import World
from plain import WORLDS, frames_after, plain_head, random_code
from support import Pleasing, any_values, outcome_of, seeded, unchanged

WORLD = World({"check": (0, {"ok": 0, "bad": 0}), "work": (1, {"done": 1}), "many": (0, {"a": 0, "b": 1, "c": 2, "d": 0})})
CODE = Code(WORLD, 2, 1, [("ask", "check", (), (("ok", (), 1), ("bad", (), 3))), ("set", ((1, ("f", 0)),), 2),
                          ("ask", "work", (1,), (("done", (0,), 0),)), ("end", "out", (0, 1))])
BOTH = {"check": "ok", "many": "a"}
SMALL = World({"check": (0, {"ok": 0, "bad": 0}), "work": (1, {"done": 1, "not": 2, "late": 0})})
PAIR = Code(SMALL, 2, 1, [("ask", "check", (), (("ok", (), 1), ("bad", (), 2))),
                          ("ask", "work", (1,), (("done", (0,), 0), ("late", (), 2), ("not", (1, 0), 1))), ("end", "out", (0, 1))])


def told(world):
    """All that a world tells."""
    return {act: (world.arguments(act), {outcome: world.brings(act, outcome) for outcome in world.outcomes(act)}) for act in world.acts()}


class PromiseTest(unittest.TestCase):
    def check(self, code, promise):
        for call, thing in [(doubled_world, code.world), (doubled, code), (trusting, code)]:
            self.assertEqual(outcome_of(call, thing, promise), (Unfit, {}), promise)

    def test_none(self):
        for promise in [{"none": "ok"}, {"check": "okay"}, {"check": "done"}, {"work": "done"}, {"many": "b"}, {"check": "ok", "many": "c"},
                        {"check": "ok", "none": "ok"}, {"check": "bad", "work": "done"}, {"check": "ok", "many": "e"}, {"Check": "ok"}]:
            self.check(CODE, dict({"many": "a"}, **promise))
            self.check(PAIR, promise)

    def test_no_dicts(self):
        for thing in any_values():
            if thing != {} and not isinstance(thing, Pleasing):
                self.check(PAIR, thing)
            self.check(CODE, thing)
        for promise in [{"check": None}, {"check": ["ok"]}, {"check": Pleasing()}, {Pleasing(): "ok"}, {0: "ok"}, {None: "ok"}, {"check": ("ok",)}]:
            self.check(CODE, dict({"many": "a"}, **promise) if all(isinstance(act, str) for act in promise) else promise)
            self.check(PAIR, promise)

    def test_outcomes_that_fall_already(self):
        for acts in [{"check": (0, {"ok": 0, "ok-": 0})}, {"check": (0, {"ok": 0}), "work": (0, {"done-": 0})},
                     {"check": (0, {"ok": 0, "bad-": 2}), "work": (0, {"done": 0})}]:
            code = Code(World(acts), 0, 0, [("end", "out", ())])
            for promise in [{}, {"check": "ok"}, {"check": "ok-"}]:
                self.check(code, promise)

    def test_four_outcomes(self):
        code = Code(WORLD, 0, 0, [("end", "out", ())])
        for promise in [{}, {"check": "ok"}, {"check": "bad"}]:
            self.check(code, promise)
        for promise in [{"many": "a"}, {"many": "d"}, BOTH]:
            self.assertIsInstance(doubled_world(WORLD, promise), World)
        six = World({"six": (0, {name: 0 for name in "abcdef"})})
        self.assertEqual(told(doubled_world(six, {"six": "f"})), told(six))
        self.check(Code(six, 0, 0, [("end", "out", ())]), {})


class WorldTest(unittest.TestCase):
    def test_by_hand(self):
        self.assertEqual(unchanged(self, lambda: told(doubled_world(WORLD, BOTH))), {
            "check": (0, {"bad": 0, "ok": 0}), "many": (0, {"a": 0, "b": 1, "c": 2, "d": 0}), "work": (1, {"done": 1, "done-": 1})})
        self.assertEqual(told(doubled_world(SMALL, {})), {
            "check": (0, {"bad": 0, "bad-": 0, "ok": 0, "ok-": 0}),
            "work": (1, {"done": 1, "done-": 1, "late": 0, "late-": 0, "not": 2, "not-": 2})})
        self.assertEqual(told(doubled_world(SMALL, {"work": "late"})), {"check": (0, {"bad": 0, "bad-": 0, "ok": 0, "ok-": 0}),
                                                                     "work": (1, {"done": 1, "late": 0, "not": 2})})
        self.assertEqual(told(doubled_world(World({}), {})), {})

    def test_promises_stay(self):
        promise = dict(BOTH)
        for call, thing in [(doubled_world, WORLD), (doubled, CODE), (trusting, CODE)]:
            call(thing, promise)
        self.assertEqual(promise, BOTH)


class CodeTest(unittest.TestCase):
    def test_doubled(self):
        self.assertEqual(unchanged(self, doubled, CODE, BOTH), Code(doubled_world(WORLD, BOTH), 2, 1, [
            ("set", (), 1), ("set", ((1, ("f", 0)),), 2), ("ask", "work", (1,), (("done", (0,), 0), ("done-", (0,), 4))), ("end", "out", (0, 1)),
            ("ask", "check", (), (("ok", (), 5), ("bad", (), 7))), ("set", ((1, ("f", 0)),), 6),
            ("ask", "work", (1,), (("done", (0,), 4), ("done-", (0,), 4))), ("end", "out", (0, 1))]))
        self.assertEqual(doubled(PAIR, {"check": "bad"}), Code(doubled_world(SMALL, {"check": "bad"}), 2, 1, [
            ("set", (), 2), ("ask", "work", (1,), (("done", (0,), 0), ("late", (), 2), ("not", (1, 0), 1), ("done-", (0,), 3), ("late-", (), 5),
                                                   ("not-", (1, 0), 4))), ("end", "out", (0, 1)),
            ("ask", "check", (), (("ok", (), 4), ("bad", (), 5))),
            ("ask", "work", (1,), (("done", (0,), 3), ("late", (), 5), ("not", (1, 0), 4), ("done-", (0,), 3), ("late-", (), 5),
                                   ("not-", (1, 0), 4))), ("end", "out", (0, 1))]))

    def test_without_promises(self):
        code = doubled(PAIR, {})
        self.assertEqual(code.statement(0), ("ask", "check", (), (("bad", (), 2), ("bad-", (), 5), ("ok", (), 1), ("ok-", (), 4))))
        self.assertEqual(code.statement(3), ("ask", "check", (), (("bad", (), 5), ("bad-", (), 5), ("ok", (), 4), ("ok-", (), 4))))
        self.assertEqual(trusting(PAIR, {}), PAIR)

    def test_words_that_are_promised_acts(self):
        rows = [("ask", "check", (), (("ok", (), 1), ("bad", (), 1))), ("end", "check", (0,))]
        code = Code(SMALL, 1, 1, rows)
        self.assertEqual(trusting(code, {"check": "ok"}).statements(), [("set", (), 1), rows[1]])
        self.assertEqual(doubled(code, {"check": "ok"}).statements()[1:], [
            rows[1], ("ask", "check", (), (("bad", (), 3), ("ok", (), 3))), rows[1]])

    def test_trusting(self):
        self.assertEqual(unchanged(self, trusting, CODE, BOTH), Code(WORLD, 2, 1, [("set", (), 1)] + CODE.statements()[1:]))
        self.assertEqual(trusting(PAIR, {"check": "bad"}), Code(SMALL, 2, 1, [("set", (), 2)] + PAIR.statements()[1:]))
        self.assertEqual(trusting(PAIR, {"work": "late"}), Code(SMALL, 2, 1, [PAIR.statement(0), ("set", (), 2), PAIR.statement(2)]))


def seen_with_fall(code, promise, outcomes):
    """What is seen of the code in a run of the doubled one: promised acts are not seen while the promise stands."""
    frame, stands, fresh, shown = code.first(), True, code.given, []
    for outcome in list(outcomes) + [None]:
        head, met = plain_head(code, *frame), []
        while stands and head[0] == "ask" and head[1] in promise:
            met.append(frame[0])
            frame = frames_after(code, *frame, fresh)[promise[head[1]]]
            head = ("silent",) if frame[0] in met else plain_head(code, *frame)
        shown.append(head)
        if outcome is None:
            return shown
        plain = outcome[:-1] if outcome.endswith("-") else outcome
        if head[0] != "ask" or plain not in frames_after(code, *frame, fresh) or (plain != outcome and head[1] in promise):
            return None
        frame = frames_after(code, *frame, fresh)[plain]
        fresh += code.world.brings(head[1], plain)
        stands = stands and plain == outcome


class SecondTest(unittest.TestCase):
    def test_runs(self):
        rng = seeded(91)
        count = 0
        worlds = WORLDS[:1] + WORLDS[2:] + [SMALL]
        for _ in range(120):
            code = random_code(rng, rng.choice(worlds), 2, rng.randrange(3), rng.randrange(1, 5), 1)
            world = code.world
            free = [(act, outcome) for act in world.acts() for outcome in world.outcomes(act) if world.brings(act, outcome) == 0]
            promise = dict(rng.sample(free, rng.randrange(2)))
            both, lean = doubled(code, promise), trusting(code, promise)
            runs = [[]]
            for outcomes in runs:
                shown = seen_with_fall(code, promise, outcomes)
                told = outcome_of(is_run, both, outcomes)
                self.assertIn(told, (shown is not None, (TooMany, {"limit": 200})))
                if told is True:
                    count += 1
                    self.assertEqual(seen(both, outcomes), shown)
                    if not any(outcome.endswith("-") for outcome in outcomes):
                        self.assertEqual(seen(lean, outcomes), shown)
                    if len(outcomes) < 3:
                        runs.extend(outcomes + [name] for act in both.world.acts() for name in both.world.outcomes(act))
        self.assertGreater(count, 1000)


if __name__ == "__main__":
    unittest.main()
