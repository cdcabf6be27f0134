"""Which recipes by a keep make alike frames of values.

Equations are the needs of the two places of a move, or None; rows are lists of numbers in a Table, the
values of frames at the first place, or least patterns of such.
"""

from framemoves.codes import NIL
from framemoves.terms import built


def determined(equations, values):
    """A list with a term for each variable behind a move of values, None if any will do; None if no frame is alike."""
    found = None if equations is None else equations.solved_for(tuple(values))
    if found is None:
        return None
    worths = dict(found)
    return [worths.get(unknown) for unknown in range(len(values), equations.width)]


def terms_by(equations, values, keep):
    """The list of the terms of the recipe by a keep that makes an alike frame of values, or None if none does."""
    worths = determined(equations, values)
    if worths is None:
        return None
    terms = [NIL if worth is None else built(worth, values, keep) for worth in worths]
    return None if None in terms else terms


def are_without(table, equations, rows, keep):
    """Whether no recipe by a keep makes alike frames of all of rows."""
    return len(rows) > 0 and terms_by(equations, table.told(table.least_of(rows)), keep) is None


def first_without(table, equations, rows, kept, keep):
    """The first index of kept roads such that no recipe does for rows and the roads up to there."""
    at = -1
    while not are_without(table, equations, rows, keep):
        at += 1
        rows = [table.least_of(rows + [kept[at][1]])]
    return at


def needed_roads(table, equations, kept, keep):
    """Of kept roads, tuples (road, values), for which no recipe does, some for which none does, but without any one."""
    chosen = []
    while not are_without(table, equations, [values for _, values in chosen], keep):
        # The road with which no recipe is left is needed beside whatever is chosen of those ahead of it.
        at = first_without(table, equations, [values for _, values in chosen], kept, keep)
        chosen.append(kept[at])
        kept = kept[:at]
    return [road for road, _ in chosen]
