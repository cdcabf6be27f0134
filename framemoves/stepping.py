"""How a frame goes on, by one statement or by some, while its values stay small enough."""

from framemoves.errors import TooMany
from framemoves.terms import exceeds, put_all


def small(values, most):
    """The values, if they have no more than most operations together."""
    if exceeds(values, most):
        raise TooMany(most)
    return values


def replaced(values, worths):
    """The values, those of the variables in a dict replaced by what it tells."""
    return tuple([worths.get(variable, value) for variable, value in enumerate(values)])


def behind_set(statement, values, most):
    """The frame behind a set."""
    changes = statement[1]
    # All terms are worked out with the values before.
    made = put_all([term for _, term in changes], values)
    worths = {change[0]: term for change, term in zip(changes, made)}
    return (statement[2], small(replaced(values, worths), most))


def behind_way(way, values, fresh, most):
    """The frame behind an outcome (outcome, variables, to) that brings the unknowns fresh, fresh + 1."""
    worths = {variable: fresh + at for at, variable in enumerate(way[1])}
    return (way[2], small(replaced(values, worths), most))


def way_from(code, place, outcome):
    """The way (outcome, variables, to) of an ask that stands at a place, or None."""
    if place is None:
        return None
    statement = code.statement(place)
    if statement[0] != "ask":
        return None
    for way in statement[3]:
        if way[0] == outcome:
            return way
    return None


def led_on(code, frame, goal, most):
    """The frame at the place goal to which sets lead from a frame."""
    place, values = frame
    while place != goal:
        place, values = behind_set(code.statement(place), values, most)
    return (place, values)
