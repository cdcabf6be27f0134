"""Terms of a Table made equal by terms for its first unknowns, the free ones; other unknowns are fixed things.

Solved rows are an ascending tuple of tuples (free unknown, number of a term), or None if nothing satisfies them.
"""

from framemoves.errors import TooMany


def top_of(above, number):
    """The number at the top of those that stand above a number."""
    while number in above:
        number = above[number]
    return number


def joined(table, free, pairs):
    """A dict from numbers to those above them, which equal them if the pairs of numbers do; None if they cannot.

    At the top stands what is no free unknown, if there is such a thing, otherwise the least free one.
    """
    above = {}
    ahead = list(pairs)
    while ahead:
        one, other = ahead.pop()
        one, other = top_of(above, one), top_of(above, other)
        if one == other:
            continue
        low, high = (one, other) if one < other else (other, one)
        if low < free <= high:
            above[low] = high
        else:
            above[high] = low
        if low >= free:
            node, second = table.nodes[low], table.nodes[high]
            if node[0] != second[0] or len(node) != len(second):
                return None
            ahead.extend(list(zip(node[1:], second[1:])))
    return above


def worths(table, free, above):
    """A dict from the free unknowns below others to their terms without any of these unknowns, or None."""
    lower = [number for number in above if number < free]
    bound = sum([1 << number for number in lower])
    made = {}
    opened = {}
    ahead = [top_of(above, number) for number in lower]
    while ahead:
        number = ahead[-1]
        if table.masks[number] & bound == 0:
            made[number] = number
        if number in made:
            ahead.pop()
            continue
        node = table.nodes[number]
        parts = [top_of(above, part) for part in node[1:]]
        missing = [part for part in parts if part not in made]
        if missing and number in opened:
            # It is met again on the way into it, so that it would be within itself.
            return None
        opened[number] = True
        ahead.extend(missing)
        if not missing:
            made[number] = table.number_of(node[:1] + tuple([made[part] for part in parts]))
    return {number: made[top_of(above, number)] for number in lower}


def solved_rows(table, free, pairs):
    """The ascending tuple of rows (free unknown, number) that say what the pairs of numbers say, or None.

    No free unknown that has a row stands in one, and no other marked unknown does.
    """
    above = joined(table, free, pairs)
    made = None if above is None else worths(table, free, above)
    if made is None or any([table.masks[number] >> free != 0 for number in made.values()]):
        return None
    return tuple(sorted(made.items()))


def bounded_rows(table, free, pairs, most):
    """As solved_rows, if the rows have no more than most operations."""
    rows = solved_rows(table, free, pairs)
    if rows is not None and table.size_of([number for _, number in rows]) > most:
        raise TooMany(most)
    return rows


def with_values(table, rows, values):
    """The pairs of numbers that must be equal for values of all marked unknowns to satisfy rows that are not None."""
    numbers = table.moved([number for _, number in rows], values)
    return [(values[row[0]], number) for row, number in zip(rows, numbers)]


def hold(table, rows, values):
    """Whether values of all marked unknowns satisfy rows."""
    return rows is not None and all([one == other for one, other in with_values(table, rows, values)])
