"""Whether two codes show the same from their first frames on, and lists of rows that show it."""

from framemoves.beside import Beside
from framemoves.checks import need_one_world
from framemoves.errors import Unlike
from framemoves.joining import hold, solved_rows, with_values
from framemoves.kinds import is_below
from framemoves.needs import needs_at
from framemoves.rounds import Rounds
from framemoves.solving import are_pairs

MOST = 200


def need_one_begin(one, other):
    """Raise Unlike() if two codes are of different worlds, or have not equally many given variables."""
    need_one_world(one, other)
    if one.given != other.given:
        raise Unlike()


def first_values(table, one, other):
    """The values of both first frames, numbers in a Table."""
    return table.taken(one.first()[1] + other.first()[1])


def pairs_met(beside):
    """The ascending list of the pairs of places to which equal outcomes lead from the first ones."""
    found = {}
    ahead = [(0, 0)]
    while ahead:
        pair = ahead.pop()
        if pair not in found:
            found[pair] = True
            ahead.extend([places for places, _ in beside.start(pair[0], pair[1])[1]])
    return sorted(found)


def alike(one, other, *, most=200):
    """("alike", rows) if the first frames of two codes are alike, otherwise ("parted", outcomes)."""
    need_one_begin(one, other)
    rounds = Rounds(one, other, most)
    outcomes = rounds.least_parting((0, 0), first_values(rounds.beside.table, one, other), one)
    if outcomes is not None:
        return ("parted", outcomes)
    return ("alike", [(place, there, needs_at(rounds, place, there).rows())
                      for place, there in pairs_met(rounds.beside)])


def are_row_tuples(one, other, thing):
    """Whether any value is a list of tuples (place, place, pairs) with pairs of terms over the variables of both."""
    if not (isinstance(thing, list) and all([isinstance(item, tuple) and len(item) == 3 for item in thing])):
        return False
    width = one.variables + other.variables
    return all([is_below(place, len(one)) and is_below(there, len(other)) and are_pairs(width, pairs)
                for place, there, pairs in thing])


def solved_by_places(beside, thing):
    """A dict from different pairs of places to the solved rows of their pairs, which may be None."""
    found = {}
    for place, there, pairs in thing:
        numbers = beside.table.taken([term for pair in pairs for term in pair])
        found[place, there] = solved_rows(beside.table, beside.many, list(zip(numbers[::2], numbers[1::2])))
    return found


def follows(beside, told, places):
    """Whether what two places need, if what follows them needs what is told, follows from what is told of them."""
    start = beside.start(places[0], places[1])
    if start is None:
        return False
    pairs = list(start[0])
    for to, values in start[1]:
        if to not in told:
            return False
        pairs.extend(with_values(beside.table, told[to], values))
    rows = dict(told[places])
    values = [rows.get(unknown, unknown) for unknown in range(beside.many)] + list(beside.brought)
    ones = beside.table.moved([one for one, _ in pairs], values)
    return ones == beside.table.moved([other for _, other in pairs], values)


def are_rows(one, other, thing):
    """Whether any value is a list of rows which shows that the first frames of two codes are alike."""
    need_one_begin(one, other)
    beside = Beside(one, other, MOST)
    if not are_row_tuples(one, other, thing):
        return False
    told = solved_by_places(beside, thing)
    if len(told) < len(thing) or None in list(told.values()) or (0, 0) not in told:
        return False
    if not hold(beside.table, told[0, 0], first_values(beside.table, one, other)):
        return False
    return all([follows(beside, told, places) for places in told])
