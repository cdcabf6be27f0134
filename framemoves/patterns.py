"""Patterns of values: lists of terms that stand for all that can be put in for their unknowns."""

from framemoves.errors import Unlike, Wrong
from framemoves.kinds import are_terms, are_values
from framemoves.nodes import fits, shared
from framemoves.terms import numbered


def are_equal_heads(node, other):
    """Whether two nodes are equal operations with equally many parts."""
    return isinstance(node[0], str) and node[0] == other[0] and len(node) == len(other)


def pairs_within(nodes, others, pairs):
    """The ascending list of the pairs of numbers that meet if the pairs are gone through side by side."""
    found = {}
    ahead = list(pairs)
    while ahead:
        one, other = ahead.pop()
        if (one, other) not in found:
            found[one, other] = True
            if are_equal_heads(nodes[one], others[other]):
                ahead.extend(list(zip(nodes[one][1:], others[other][1:])))
    return sorted(found)


def least_terms(terms, others):
    """The list of terms of which both lists come, and that come of each other such list."""
    nodes, tops = shared(terms)
    more, ends = shared(others)
    made = {}
    # Ascending pairs have parts ahead of wholes, as nodes have.
    for one, other in pairs_within(nodes, more, list(zip(tops, ends))):
        if are_equal_heads(nodes[one], more[other]):
            parts = [made[pair] for pair in zip(nodes[one][1:], more[other][1:])]
            made[one, other] = (nodes[one][0],) + tuple(parts)
        else:
            made[one, other] = len(made)
    return [made[pair] for pair in zip(tops, ends)]


class Pattern:
    """A pattern: a tuple of terms whose unknowns stand for any terms."""

    def __init__(self, terms):
        if not (isinstance(terms, (list, tuple)) and are_terms(terms)):
            raise Wrong(0)
        self._terms = tuple(numbered(terms))

    @property
    def terms(self):
        """The tuple of the terms, numbered."""
        return self._terms

    def __contains__(self, values):
        """Whether any value is an instance."""
        if not are_values(len(self._terms), values):
            return False
        nodes, tops = shared(values)
        return fits(list(zip(self._terms, tops)), nodes, {})

    def __eq__(self, other):
        return isinstance(other, Pattern) and self._terms == other._terms

    def __len__(self):
        return len(self._terms)

    def __repr__(self):
        return f"Pattern({self._terms!r})"

    def __or__(self, other):
        """The least pattern of which all instances of both are instances."""
        if len(self._terms) != len(other._terms):
            raise Unlike()
        return Pattern(least_terms(self._terms, other._terms))
