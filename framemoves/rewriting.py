"""Codes rewritten, with the moves to the rewritten ones and back."""

from framemoves.checks import need_place
from framemoves.codes import Code
from framemoves.errors import Unfit
from framemoves.looking import looks_at
from framemoves.needs import needs_at
from framemoves.recipes import Recipe
from framemoves.rounds import Rounds
from framemoves.statements import leads, restated, terms_in, with_terms
from framemoves.terms import put_all, unknowns


def copied(code, pairs):
    """The ascending list of the moves (place, place, recipe) of pairs of places, by which each variable is kept."""
    recipe = Recipe(code.variables, list(range(code.variables)))
    return [(place, to, recipe) for place, to in sorted(pairs)]


def with_statements(code, statements):
    """The Code that has other statements, and the moves from each place to itself, there and back."""
    places = [(place, place) for place in range(len(code))]
    new = Code(code.world, code.variables, code.given, statements)
    return (new, copied(code, places), copied(code, places))


def without_dead(code, *, most=200):
    """The code without changes of variables that are dead behind them, and the moves there and back."""
    rounds = Rounds(code, code, most)
    found = []
    for statement in code.statements():
        if statement[0] == "set":
            rows = needs_at(rounds, statement[2], statement[2]).rows()
            used = unknowns([term for row in rows for term in row])
            living = [unknown % code.variables for unknown in used]
            statement = ("set", tuple([change for change in statement[1] if change[0] in living]), statement[2])
        found.append(statement)
    return with_statements(code, found)


def with_variables(terms, values):
    """The terms, operations among them replaced by the least variables that have the values that they make."""
    return [values.index(made) if isinstance(term, tuple) and made in values else term
            for term, made in zip(terms, put_all(terms, values))]


def same_once(code, *, most=200):
    """The code in which what a variable has already is not made again, and the moves there and back."""
    looks = looks_at(code, most)
    found = []
    for statement, pattern in zip(code.statements(), looks.patterns):
        if pattern is not None:
            terms = with_variables(terms_in(statement), looks.table.told(pattern))
            statement = with_terms(statement, terms)
        found.append(statement)
    return with_statements(code, found)


def places_behind(code, place):
    """A dict with the places to which one or more ways lead from a place."""
    found = {}
    ahead = leads(code.statement(place))
    while ahead:
        to = ahead.pop()
        if to not in found:
            found[to] = True
            ahead.extend(leads(code.statement(to)))
    return found


def loop_of(code, place):
    """The ascending list of the places of the loop of a place."""
    return [at for at in sorted(places_behind(code, place)) if place in places_behind(code, at)]


def unrolled(code, place):
    """The code with second copies of the places of the loop of a place, and the moves there and back."""
    need_place(code, place)
    loop = loop_of(code, place)
    if len(loop) == 0:
        raise Unfit()
    places = list(range(len(code)))
    order = list(range(code.variables))
    second = {at: len(code) + count for count, at in enumerate(loop)}
    statements = []
    for at, statement in enumerate(code.statements()):
        is_turn = at in second
        tos = [second[place] if is_turn and to == place else to for to in leads(statement)]
        statements.append(restated(statement, order, tos))
    for at in loop:
        statement = code.statement(at)
        tos = [to if to == place else second.get(to, to) for to in leads(statement)]
        statements.append(restated(statement, order, tos))
    pairs = [(at, at) for at in places]
    there = copied(code, pairs + [(at, second[at]) for at in loop])
    back = copied(code, pairs + [(second[at], at) for at in loop])
    return (Code(code.world, code.variables, code.given, statements), there, back)
