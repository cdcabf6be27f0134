"""Which recipes by a keep make alike frames of values.

A case is a tuple (equations, known, values) of lists of terms: of the values a recipe is to make those
that behind the known ones satisfy the equations, which may be None. Such lists are values of frames, or
least patterns of such.
"""

from framemoves.codes import NIL
from framemoves.tables import Table
from framemoves.terms import built


def determined(equations, values):
    """A list with a term for each variable behind a move of values, None if any will do; None if no frame is alike."""
    found = None if equations is None else equations.solved_for(tuple(values))
    if found is None:
        return None
    worths = dict(found)
    return [worths.get(unknown) for unknown in range(len(values), equations.width)]


def term_for_all(rows, keep):
    """A term over a keep that makes of all but the last one of the terms of each row the last one, or None."""
    if len(rows) == 0:
        return NIL
    table = Table([])
    terms = table.told(table.least_of([table.taken(row) for row in rows]))
    return built(terms[-1], terms[:-1], keep)


def terms_by(cases, keep):
    """The list of the terms of the recipe by a keep that does for one or more cases, or None if none does."""
    found = [determined(equations, known) for equations, known, _ in cases]
    if None in found:
        return None
    terms = []
    for variable in range(len(found[0])):
        rows = [case[2] + [worths[variable]] for case, worths in zip(cases, found) if worths[variable] is not None]
        terms.append(term_for_all(rows, keep))
    return None if None in terms else terms


def are_without(table, equations, rows, keep):
    """Whether no recipe by a keep makes alike frames of all of rows, lists of numbers in a Table."""
    if len(rows) == 0:
        return False
    values = table.told(table.least_of(rows))
    return terms_by([(equations, values, values)], keep) is None


def needed(kept, fails):
    """Of a list that fails, items that fail, but not without any one of them; with more items lists fail, too."""
    chosen = []
    while not fails(chosen):
        low, high = 0, len(kept)
        while high - low > 1:
            middle = (low + high) // 2
            if fails(chosen + kept[:middle]):
                high = middle
            else:
                low = middle
        # The item with which it fails is needed beside whatever is chosen of those ahead of it.
        chosen.append(kept[high - 1])
        kept = kept[:high - 1]
    return chosen
