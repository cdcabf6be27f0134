"""Recipes: lists of terms that make values of one code of values of another one."""

from framemoves.errors import Unlike, Wrong
from framemoves.kinds import are_terms, is_integer
from framemoves.nodes import are_same, filled, laid, laid_behind
from framemoves.terms import unknowns


class Recipe:
    """A recipe: a list of terms over so many variables. Equal parts of terms are kept once."""

    def __init__(self, variables, terms):
        if not (is_integer(variables) and variables >= 0):
            raise Wrong(0)
        if not (isinstance(terms, (list, tuple)) and are_terms(terms)):
            raise Wrong(1)
        if not all([unknown < variables for unknown in unknowns(terms)]):
            raise Wrong(1)
        self._variables = variables
        self._plan = laid(terms)

    @property
    def variables(self):
        """The number of the variables of which values are made."""
        return self._variables

    @property
    def plan(self):
        """The nodes of the terms, and the numbers of the terms among them."""
        return self._plan

    @property
    def terms(self):
        """The tuple of the terms."""
        nodes, tops = self._plan
        made = filled(nodes, {node[0]: node[0] for node in nodes if not isinstance(node[0], str)})
        return tuple([made[top] for top in tops])

    @staticmethod
    def keeping(many):
        """The Recipe that makes of so many values these themselves."""
        return Recipe(many, list(range(many)))

    def __call__(self, values):
        """The tuple of the values that are made of a tuple of values."""
        nodes, tops = self._plan
        made = filled(nodes, values)
        return tuple([made[top] for top in tops])

    def __mul__(self, other):
        """The Recipe that makes what the other one makes of what this one makes."""
        if other._variables != len(self._plan[1]):
            raise Unlike()
        both = Recipe(self._variables, [])
        both._plan = laid_behind(self._plan, other._plan)
        return both

    def __eq__(self, other):
        return isinstance(other, Recipe) and self._variables == other._variables and are_same(self._plan, other._plan)

    def __len__(self):
        return len(self._plan[1])

    def __repr__(self):
        return f"Recipe({self._variables}, {self.terms!r})"
