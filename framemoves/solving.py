"""Equations between terms, solved."""

from framemoves.errors import NoSolution, Unlike, Wrong
from framemoves.kinds import are_terms, are_values, is_integer
from framemoves.nodes import fits, shared
from framemoves.terms import put_all, unknowns
from framemoves.unifying import are_equal, solved, solved_together, terms_of, without_free


def are_pairs(many, thing):
    """Whether any value is a list of tuples of two terms with no other unknowns than 0 to many - 1."""
    if not isinstance(thing, list):
        return False
    if not all([isinstance(pair, tuple) and len(pair) == 2 and are_terms(pair) for pair in thing]):
        return False
    return all([unknown < many for unknown in unknowns([term for pair in thing for term in pair])])


def fixed_values(values):
    """The solved equations by which the first unknowns are these values, with fixed things for their unknowns."""
    things = put_all(values, {unknown: -1 - unknown for unknown in unknowns(values)})
    return solved(list(enumerate(things)))


class Equations:
    """Equations over the unknowns 0 to many - 1."""

    def __init__(self, many, pairs):
        if not (is_integer(many) and many >= 0):
            raise Wrong(0)
        if not are_pairs(many, pairs):
            raise Wrong(1)
        found = solved(pairs)
        if found is None:
            raise NoSolution()
        self._many = many
        self._solved = found

    @property
    def width(self):
        """How many unknowns there are."""
        return self._many

    def rows(self):
        """The ascending list of the tuples (unknown, term) that say the same, solved."""
        nodes, links = self._solved
        terms = terms_of(nodes)
        return [(unknown, terms[number]) for unknown, number in links]

    def solved_for(self, values):
        """The list of the tuples (unknown, term) that behind these first values are the same in all solutions.

        It is None if there is no solution that begins with the values.
        """
        found = solved_together(self._solved, fixed_values(values))
        if found is None:
            return None
        nodes, links = found
        terms = terms_of(nodes)
        told = without_free(nodes)
        return [(unknown, terms[number]) for unknown, number in links if unknown >= len(values) and told[number]]

    def within(self, other):
        """Whether all terms that satisfy these equations satisfy the other ones."""
        if self._many != other._many:
            raise Unlike()
        found = solved_together(self._solved, other._solved)
        return found is not None and are_equal(self._solved, found)

    def __and__(self, other):
        """The equations that those terms satisfy that satisfy both."""
        if self._many != other._many:
            raise Unlike()
        found = solved_together(self._solved, other._solved)
        if found is None:
            raise NoSolution()
        both = Equations(self._many, [])
        both._solved = found
        return both

    def __contains__(self, values):
        """Whether any value is a tuple of so many terms that satisfies the equations."""
        if not are_values(self._many, values):
            return False
        nodes, tops = shared(values)
        rows = [(term, tops[unknown]) for unknown, term in self.rows()]
        return fits(rows, nodes, {unknown: top for unknown, top in enumerate(tops)})

    def __eq__(self, other):
        return isinstance(other, Equations) and self._many == other._many and are_equal(self._solved, other._solved)

    def __len__(self):
        return len(self._solved[1])

    def __repr__(self):
        return f"Equations({self._many}, {self.rows()!r})"


def with_rows(many, rows):
    """The Equations over so many unknowns whose rows are these."""
    made = Equations(many, [])
    nodes, tops = shared([term for _, term in rows])
    made._solved = (nodes, [(row[0], top) for row, top in zip(rows, tops)])
    return made
