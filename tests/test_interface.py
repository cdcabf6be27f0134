"""The names, arguments and places of definition that the interface lists."""

import ast
import doctest
import importlib
import inspect
import pathlib
import unittest

FOLDER = pathlib.Path(__file__).resolve().parent.parent / "framemoves"

FUNCTIONS = {
    "kinds": ["is_integer(thing)", "is_name(thing)", "is_outcome(thing)", "is_term(thing)", "are_values(many, thing)"],
    "terms": ["put(term, values)", "size(terms)", "unknowns(terms)", "numbered(terms)", "built(term, values, keep)"],
    "runs": ["answered(code, frame, outcome, fresh)", "frame_after(code, outcomes)", "onward(code, frame)",
             "head(code, frame)", "seen(code, outcomes)", "is_run(code, thing)"],
    "roads": ["road_frame(code, road, *, most=200)", "is_road(code, thing)"],
    "facts": ["kept_roads(code, place, *, most=200)", "facts(code, *, most=200)", "fact(code, place, *, most=200)",
              "are_facts(code, thing)", "shows_fact(code, place, thing, *, most=200)"],
    "needs": ["needs(one, p, other, q, *, most=200)", "all_needs(one, other, *, most=200)",
              "are_alike(one, frame, other, second, *, most=200)", "parting(one, frame, other, second, *, most=200)"],
    "alike": ["alike(one, other, *, most=200)", "are_rows(one, other, thing)"],
    "moves": ["is_right(one, p, other, q, recipe, *, most=200)", "wrong_road(one, p, other, q, recipe, *, most=200)",
              "recipe_for(one, p, other, q, *, keep=None, most=200)",
              "are_stuck(one, p, other, q, keep, thing, *, most=200)"],
    "keeps": ["are_enough(one, pairs, keep, *, most=200)", "is_bar(one, pairs, thing, *, most=200)",
              "is_cheapest(one, pairs, prices, thing, *, most=200)", "least_keeps(one, pairs, *, most=200)",
              "least_bars(one, pairs, *, most=200)", "cheapest(one, pairs, prices, *, most=200)"],
    "composing": ["parting_road(one, place, other, there, first, second, *, most=200)",
                  "there_and_back(one, place, other, there, recipe, back, *, most=200)"],
    "histories": ["frame_of(yard, history)", "is_history(yard, thing)", "shown(yard, history)"],
    "calm": ["yard_needs(yard, there, version, place, *, most=200)", "calm(yard, *, most=200)",
             "recipe_once(yard, version, place, other, there, *, most=200)", "are_calm_rows(yard, thing)"],
    "unfolding": ["unfolded(unit, name)"],
    "putting": ["put_in(unit, name, place)"],
    "rewriting": ["without_dead(code, *, most=200)", "same_once(code, *, most=200)", "unrolled(code, place)"],
    "trust": ["doubled_world(world, promise)", "doubled(code, promise)", "trusting(code, promise)"],
    "looks": ["look_yard(code, lean, promise, looks)", "fewest_looks(code, lean, promise, looks, *, most=200)",
              "is_sound(yard, move, *, most=200)"],
    "notation": ["show_term(term)", "show_code(code)", "show_move(move)", "show_deed(deed)", "show_log(book)", "read_term(text)",
                 "read_code(text)", "read_move(text)", "read_deed(text)", "read_log(true, text)"],
}

CLASSES = {
    ("patterns", "Pattern(terms)"): ["terms", "__or__", "__contains__", "__eq__", "__len__", "__repr__"],
    ("solving", "Equations(many, pairs)"): ["width", "rows(self)", "solved_for(self, values)", "within(self, other)",
                                            "__and__", "__contains__", "__eq__", "__len__", "__repr__"],
    ("worlds", "World(acts)"): ["acts(self)", "outcomes(self, act)", "arguments(self, act)",
                                "brings(self, act, outcome)", "__eq__"],
    ("codes", "Code(world, variables, given, statements)"): [
        "world", "variables", "given", "__len__", "__eq__", "statement(self, place)", "statements(self)", "first(self)",
        "showing(self, place)"],
    ("recipes", "Recipe(variables, terms)"): ["variables", "terms", "__call__(self, values)", "__mul__", "__eq__",
                                              "__len__", "__repr__"],
    ("yards", "Yard(true, versions, moves, *, begins=(0,))"): ["true", "begins", "versions(self)", "moves(self)",
                                                               "with_move(self, move)", "__eq__"],
    ("units", "Unit(world, functions)"): ["world", "functions(self)", "function(self, name)", "__eq__"],
    ("book", "Book(true)"): ["do(self, deed)", "frame(self)", "back(self)", "again(self)", "yard(self)", "outcomes(self)",
                             "shown(self)", "log(self)", "is_right(self)", "until(self, many)", "trial(self, act)", "__eq__",
                             "__len__"],
    ("unfolding", "Unfolding(unit, name)"): ["code", "outermost", "stacks(self)", "frames_of(self, frame)",
                                             "place_of(self, stack)", "frame_of(self, frames)"],
}


def defined(module):
    """The names that a file defines by def or class at module level."""
    tree = ast.parse((FOLDER / (module + ".py")).read_text())
    return {node.name for node in tree.body if isinstance(node, (ast.FunctionDef, ast.ClassDef))}


class InterfaceTest(unittest.TestCase):
    def test_functions(self):
        for module, signatures in FUNCTIONS.items():
            for signature in signatures:
                name = signature.split("(")[0]
                function = getattr(importlib.import_module("framemoves." + module), name)
                self.assertEqual(name + str(inspect.signature(function)), signature)
                self.assertIn(name, defined(module))

    def test_classes(self):
        for (module, signature), methods in CLASSES.items():
            name = signature.split("(")[0]
            kind = getattr(importlib.import_module("framemoves." + module), name)
            self.assertEqual(name + str(inspect.signature(kind)), signature)
            self.assertIn(name, defined(module))
            for method in methods:
                short = method.split("(")[0]
                self.assertIn(short, vars(kind), name)
                if "(" in method:
                    self.assertEqual(short + str(inspect.signature(vars(kind)[short])), method)
                elif not short.startswith("_"):
                    self.assertIsInstance(vars(kind)[short], property)

    def test_static_methods(self):
        from framemoves.recipes import Recipe
        self.assertIsInstance(vars(Recipe)["keeping"], staticmethod)
        self.assertEqual(str(inspect.signature(Recipe.keeping)), "(many)")

    def test_readme(self):
        failed, tried = doctest.testfile(str(FOLDER.parent / "README.md"), module_relative=False)
        self.assertEqual(failed, 0)
        self.assertGreater(tried, 0)


if __name__ == "__main__":
    unittest.main()
