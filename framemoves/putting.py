"""Called functions put in the place of a call."""

from framemoves.calls import closed, opened
from framemoves.checks import need_place
from framemoves.codes import NIL
from framemoves.errors import TooMany, Unfit
from framemoves.recipes import Recipe
from framemoves.statements import leads, restated
from framemoves.unfolding import unfolded
from framemoves.units import MOST_VARIABLES, Unit


def copies_of(call, order, called, count):
    """The list of the statements of a called function put behind so many places; order is that of the calling one."""
    first = len(order)
    own = list(range(first, first + called[0]))
    found = []
    for statement in called[3]:
        if statement[0] == "back":
            found.append(closed(call, order, statement, own, own, call[4]))
        else:
            found.append(restated(statement, own, [count + to for to in leads(statement)]))
    return found


def put_together(function, place, called):
    """The function with a called one in the place of the call at a place."""
    variables, given, results, statements = function
    order = list(range(variables))
    call = statements[place]
    found = list(statements) + copies_of(call, order, called, len(statements))
    found[place] = opened(call, order, list(range(variables, variables + called[0])), len(statements))
    return (variables + called[0], given, results, found)


def inside(frames, place, count, many):
    """The frames of a stack with the called function in the place of the call, which has so many variables."""
    name, at, values = frames[0]
    if at == place and len(frames) > 1:
        return [(name, count + frames[1][1], values + frames[1][2])] + frames[2:]
    return [(name, at, values + (NIL,) * many)] + frames[1:]


def outside(frames, place, count, called, variables):
    """The frames of a stack with the called function behind the one that calls, which has so many variables."""
    name, at, values = frames[0]
    if at < count:
        return [(name, at, values[:variables])] + frames[1:]
    return [(name, place, values[:variables]), (called, at - count, values[variables:])] + frames[1:]


def moves_between(one, other, written):
    """The list of the tuples (p, q, recipe) from one Unfolding to another one, for which written turns frames."""
    many = one.code.variables
    found = []
    for place in range(len(one.code)):
        to, terms = other.frame_of(written(one.frames_of((place, tuple(range(many))))))
        found.append((place, to, Recipe(many, terms)))
    return found


def put_in(unit, name, place):
    """The Unit with the called function in the place of the call at a place, and the moves there and back."""
    function = unit.function(name)
    variables, _, _, statements = function
    need_place(statements, place)
    call = statements[place]
    if call[0] != "call":
        raise Unfit()
    called = unit.function(call[1])
    if variables + called[0] > MOST_VARIABLES:
        raise TooMany(MOST_VARIABLES)
    functions = {other: unit.function(other) for other in unit.functions()}
    functions[name] = put_together(function, place, called)
    new = Unit(unit.world, functions)
    before, after = unfolded(unit, name), unfolded(new, name)
    count = len(statements)
    there = moves_between(before, after, lambda frames: inside(frames, place, count, called[0]))
    back = moves_between(after, before, lambda frames: outside(frames, place, count, call[1], variables))
    return (new, there, back)
