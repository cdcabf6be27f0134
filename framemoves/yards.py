"""Yards: versions of a code, and the moves between them."""

from framemoves.codes import Code
from framemoves.errors import BadMove, Unlike, Wrong
from framemoves.kinds import is_below
from framemoves.recipes import Recipe

MOST_VERSIONS = 3


def are_versions(thing):
    """Whether any value is a list of one to three Codes."""
    if not (isinstance(thing, list) and 1 <= len(thing) <= MOST_VERSIONS):
        return False
    return all([isinstance(code, Code) for code in thing])


def are_begins(versions, thing):
    """Whether any value is a list or a tuple of one or more numbers of versions."""
    if not (isinstance(thing, (list, tuple)) and len(thing) > 0):
        return False
    return all([is_below(number, len(versions)) for number in thing])


def is_move(versions, thing):
    """Whether any value is a tuple (version, place, other, there, recipe, kind) that fits the versions."""
    if not (isinstance(thing, tuple) and len(thing) == 6):
        return False
    version, place, other, there, recipe, kind = thing
    if not (is_below(version, len(versions)) and is_below(place, len(versions[version]))):
        return False
    if not (is_below(other, len(versions)) and is_below(there, len(versions[other]))):
        return False
    if not (isinstance(recipe, Recipe) and isinstance(kind, str) and kind in ("may", "must")):
        return False
    return recipe.variables == versions[version].variables and len(recipe) == versions[other].variables


def first_unfit(versions, moves):
    """The index of the first item that is no move, or cannot stand where an earlier one stands, or None."""
    kinds = {}
    for at, move in enumerate(moves):
        if not is_move(versions, move):
            return at
        where = (move[0], move[1])
        if where in kinds and "must" in (kinds[where], move[5]):
            return at
        kinds[where] = move[5]
    return None


class Yard:
    """A yard: a true code, versions that are joined by moves, and the versions in which histories begin."""

    def __init__(self, true, versions, moves, *, begins=(0,)):
        if not isinstance(true, Code):
            raise Wrong(0)
        if not are_versions(versions):
            raise Wrong(1)
        if not isinstance(moves, list):
            raise Wrong(2)
        if not are_begins(versions, begins):
            raise Wrong(3)
        if not all([code.world == true.world and code.given == true.given for code in versions]):
            raise Unlike()
        at = first_unfit(versions, moves)
        if at is not None:
            raise BadMove(at)
        self._true = true
        self._versions = list(versions)
        self._moves = list(moves)
        self._begins = tuple(sorted(set(begins)))

    @property
    def true(self):
        """The true code."""
        return self._true

    @property
    def begins(self):
        """The ascending tuple of the versions in which histories begin."""
        return self._begins

    def versions(self):
        """The list of the versions."""
        return list(self._versions)

    def moves(self):
        """The list of the moves."""
        return list(self._moves)

    def with_move(self, move):
        """The Yard with a further move, the last one."""
        return Yard(self._true, self._versions, self._moves + [move], begins=self._begins)

    def __eq__(self, other):
        if not isinstance(other, Yard) or self._true != other._true or self._begins != other._begins:
            return False
        return self._versions == other._versions and self._moves == other._moves
