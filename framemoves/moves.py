"""Moves: whether a recipe makes alike frames of all frames that are reached at a place, and which one does."""

from framemoves.checks import need_places
from framemoves.codes import NIL
from framemoves.errors import Unfit
from framemoves.looking import looks_at
from framemoves.making import are_without, needed, terms_by
from framemoves.needs import needs_at
from framemoves.recipes import Recipe
from framemoves.roads import values_of_roads
from framemoves.rounds import Rounds


def all_or(keep, code):
    """A keep as a list, of all variables of a code if it is None."""
    return list(range(code.variables)) if keep is None else keep


def with_made(rounds, looks, values, recipe):
    """Values of Looks, and what a recipe makes of them behind them, as numbers in the table of Rounds."""
    table = rounds.beside.table
    found = table.taken(looks.table.told(values))
    return found + table.worked(recipe.plan, found)


def wrong_road(one, p, other, q, recipe, *, most=200):
    """None if the move is right; otherwise a road to a frame that is not moved rightly, and outcomes that show it."""
    need_places(one, p, other, q)
    if recipe.variables != one.variables or len(recipe) != other.variables:
        raise Unfit()
    looks = looks_at(one, most)
    rounds = Rounds(one, other, most)
    for road, values in looks.kept[p]:
        outcomes = rounds.least_parting((p, q), with_made(rounds, looks, values, recipe), one)
        if outcomes is not None:
            return (road, outcomes)
    return None


def is_right(one, p, other, q, recipe, *, most=200):
    """Whether the move by a recipe is right."""
    return wrong_road(one, p, other, q, recipe, most=most) is None


def recipe_for(one, p, other, q, *, keep=None, most=200):
    """("move", recipe) with a recipe by the keep that is right, or ("stuck", roads) that show that none is."""
    need_places(one, p, other, q)
    looks = looks_at(one, most)
    equations = needs_at(Rounds(one, other, most), p, q)
    if looks.patterns[p] is None:
        return ("move", Recipe(one.variables, [NIL] * other.variables))
    variables = all_or(keep, one)
    values = looks.table.told(looks.patterns[p])
    terms = terms_by([(equations, values, values)], variables)
    if terms is not None:
        return ("move", Recipe(one.variables, terms))
    table = looks.table
    chosen = needed(looks.kept[p], lambda some: are_without(table, equations, [row[1] for row in some], variables))
    return ("stuck", [road for road, _ in chosen])


def are_stuck(one, p, other, q, keep, thing, *, most=200):
    """Whether any value is a list of different roads to p of which no recipe by the keep makes alike frames."""
    need_places(one, p, other, q)
    looks = looks_at(one, most)
    equations = needs_at(Rounds(one, other, most), p, q)
    rows = values_of_roads(looks.table, one, p, thing, most)
    return bool(rows) and are_without(looks.table, equations, rows, all_or(keep, one))
