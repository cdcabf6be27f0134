"""That results are renamed as names are, if these are renamed one to one such that their order stays."""

import unittest

from framemoves.alike import alike
from framemoves.calm import calm, recipe_once, yard_needs
from framemoves.codes import Code
from framemoves.facts import facts, kept_roads
from framemoves.histories import frame_of, shown
from framemoves.keeps import cheapest
from framemoves.looks import fewest_looks, look_yard
from framemoves.moves import recipe_for, wrong_road
from framemoves.needs import all_needs, parting
from framemoves.patterns import Pattern
from framemoves.putting import put_in
from framemoves.recipes import Recipe
from framemoves.rewriting import same_once, unrolled, without_dead
from framemoves.solving import Equations
from framemoves.trust import doubled, doubled_world, trusting
from framemoves.unfolding import unfolded
from framemoves.units import Unit
from framemoves.worlds import World
from framemoves.yards import Yard
from plain import WORLDS, histories_of, random_code, varied
from plain_units import random_unit
from plain_yards import all_standings, random_yard
from support import outcome_of, seeded

# What the results themselves are told with, and the constant that first frames have, is renamed to itself.
FIXED = ("nil", "set", "ask", "end", "silent", "alike", "parted", "move", "stuck", "may", "must", "", "call", "back", "calm")


class Promise(dict):
    """A promise, whose names are renamed, too."""


def renamed(thing):
    """The thing with all names in it renamed; an a behind each of two names does not change their order."""
    if isinstance(thing, str):
        return thing if thing in FIXED else thing[:-1] + "a-" if thing.endswith("-") else thing + "a"
    if isinstance(thing, (list, tuple)):
        return type(thing)(renamed(item) for item in thing)
    if isinstance(thing, Promise):
        return Promise({renamed(act): renamed(outcome) for act, outcome in thing.items()})
    if isinstance(thing, World):
        acts = [(act, thing.arguments(act), thing.outcomes(act)) for act in thing.acts()]
        return World({renamed(act): (many, {renamed(outcome): thing.brings(act, outcome) for outcome in outcomes})
                      for act, many, outcomes in acts})
    if isinstance(thing, Code):
        return Code(renamed(thing.world), thing.variables, thing.given, renamed(thing.statements()))
    if isinstance(thing, Pattern):
        return Pattern(renamed(thing.terms))
    if isinstance(thing, Recipe):
        return Recipe(thing.variables, renamed(thing.terms))
    if isinstance(thing, Equations):
        return Equations(thing.width, renamed(thing.rows()))
    if isinstance(thing, Yard):
        return Yard(renamed(thing.true), renamed(thing.versions()), renamed(thing.moves()), begins=thing.begins)
    if isinstance(thing, Unit):
        return Unit(renamed(thing.world), {renamed(name): renamed(thing.function(name)) for name in thing.functions()})
    return thing


class RenamedTest(unittest.TestCase):
    def check(self, call, *things, **more):
        told = outcome_of(call, *things, **more)
        self.assertEqual(outcome_of(call, *[renamed(thing) for thing in things], **more), renamed(told))

    def test_results_are_renamed(self):
        rng = seeded(11)
        for _ in range(80):
            code = random_code(rng, rng.choice(WORLDS), 3, rng.randrange(4), rng.randrange(1, 5))
            other = varied(rng, code)
            place, there = rng.randrange(len(code)), rng.randrange(len(other))
            self.check(facts, code)
            self.check(kept_roads, code, place)
            self.check(all_needs, code, other)
            self.check(alike, code, other)
            self.check(parting, code, code.first(), other, other.first())
            self.check(wrong_road, code, place, other, there, Recipe(3, [0, ("f", 1), ("c",)]))
            for keep in (None, [0, 1], [2]):
                self.check(recipe_for, code, place, other, there, keep=keep)
            self.check(cheapest, code, [(place, other, there), (place, code, place)], [2, 1, 3])
            moves = [(0, place, 1, there, Recipe(3, [0, 2, ("g", 1, 0)]), "may")]
            yard, second = Yard(code, [code, other], moves), Yard(renamed(code), [renamed(code), renamed(other)], renamed(moves))
            for history in histories_of(yard, 4)[:20]:
                self.assertEqual(frame_of(second, renamed(history)), renamed(frame_of(yard, history)))
                self.assertEqual(shown(second, renamed(history)), renamed([tuple(row) for row in shown(yard, history)]))

    def test_results_of_yards_are_renamed(self):
        rng = seeded(111)
        for _ in range(60):
            yard = random_yard(rng)
            self.check(calm, yard)
            for _ in range(4):
                self.check(yard_needs, yard, *rng.choice(all_standings(yard)))
                self.check(recipe_once, yard, *rng.choice(all_standings(yard))[1:], *rng.choice(all_standings(yard))[1:])

    def test_results_of_units_are_renamed(self):
        rng = seeded(112)
        for _ in range(60):
            unit = random_unit(rng)
            for name in unit.functions():
                told, second = outcome_of(unfolded, unit, name), outcome_of(unfolded, renamed(unit), renamed(name))
                if isinstance(told, tuple):
                    self.assertEqual(second, told)
                else:
                    self.assertEqual([second.code, second.stacks()], [renamed(told.code), renamed(told.stacks())])
                for place in range(len(unit.function(name)[3])):
                    self.check(put_in, unit, name, place)

    def test_results_of_rewriting_and_promises_are_renamed(self):
        rng = seeded(113)
        for _ in range(60):
            code = random_code(rng, rng.choice([WORLDS[0], WORLDS[2]]), 2, 1, rng.randrange(2, 5))
            for call in (without_dead, same_once):
                self.check(call, code)
            self.check(unrolled, code, rng.randrange(len(code)))
            act = code.world.acts()[0]
            promise = Promise({act: code.world.outcomes(act)[0]}) if rng.random() < 0.7 else Promise()
            self.check(doubled_world, code.world, promise)
            self.check(doubled, code, promise)
            self.check(trusting, code, promise)
            looks = [(at, at, Recipe.keeping(2)) for at in rng.sample(range(len(code)), 2)]
            lean = trusting(code, promise)
            self.check(look_yard, code, lean, promise, looks)
            self.check(fewest_looks, code, lean, promise, looks)


if __name__ == "__main__":
    unittest.main()
