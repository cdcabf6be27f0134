"""Statements of a code: which tuples they are, the order in which they are kept, and their plans."""

from framemoves.kinds import are_values, is_below, is_name
from framemoves.nodes import laid
from framemoves.terms import put_all, unknowns


def are_terms_over(variables, many, thing):
    """Whether any value is a tuple of so many terms whose unknowns are variables."""
    return are_values(many, thing) and all([unknown < variables for unknown in unknowns(thing)])


def are_different_variables(variables, things):
    """Whether all things in a list or tuple are variables, no two of them the same."""
    return all([is_below(thing, variables) for thing in things]) and len(set(things)) == len(things)


def are_tuples(many, thing):
    """Whether any value is a tuple of tuples of so many items."""
    return isinstance(thing, tuple) and all([isinstance(item, tuple) and len(item) == many for item in thing])


def is_set(variables, places, item):
    """Whether a tuple is a statement ("set", changes, to)."""
    if not (len(item) == 3 and are_tuples(2, item[1]) and is_below(item[2], places)):
        return False
    if not are_different_variables(variables, [change[0] for change in item[1]]):
        return False
    return are_terms_over(variables, len(item[1]), tuple([change[1] for change in item[1]]))


def is_way(variables, places, brought, way):
    """Whether (outcome, variables, to) takes so many brought values into variables and leads to a place."""
    targets = way[1]
    if not (isinstance(targets, tuple) and len(targets) == brought and is_below(way[2], places)):
        return False
    return are_different_variables(variables, targets)


def are_ways(world, variables, places, act, ways):
    """Whether any value is a tuple of ways, one for each outcome of an act."""
    if not (are_tuples(3, ways) and all([isinstance(way[0], str) for way in ways])):
        return False
    if sorted([way[0] for way in ways]) != world.outcomes(act):
        return False
    return all([is_way(variables, places, world.brings(act, way[0]), way) for way in ways])


def is_ask(world, variables, places, item):
    """Whether a tuple is a statement ("ask", act, terms, ways)."""
    if not (len(item) == 4 and is_name(item[1]) and item[1] in world.acts()):
        return False
    if not are_terms_over(variables, world.arguments(item[1]), item[2]):
        return False
    return are_ways(world, variables, places, item[1], item[3])


def is_end(variables, item):
    """Whether a tuple is a statement ("end", word, terms)."""
    if not (len(item) == 3 and is_name(item[1]) and isinstance(item[2], tuple) and len(item[2]) <= 2):
        return False
    return are_terms_over(variables, len(item[2]), item[2])


def is_statement(world, variables, places, item):
    """Whether any value is a statement of a code of the world with so many variables and places."""
    if not (isinstance(item, tuple) and len(item) > 0 and isinstance(item[0], str)):
        return False
    if item[0] == "set":
        return is_set(variables, places, item)
    if item[0] == "ask":
        return is_ask(world, variables, places, item)
    return item[0] == "end" and is_end(variables, item)


def in_order(statement):
    """The statement with changes ascending by variables and ways ascending by outcomes."""
    if statement[0] == "set":
        changes = sorted(statement[1], key=lambda change: change[0])
        return ("set", tuple(changes), statement[2])
    if statement[0] == "ask":
        ways = sorted(statement[3], key=lambda way: way[0])
        return ("ask", statement[1], statement[2], tuple(ways))
    return statement


def terms_in(statement):
    """The list of the whole terms of a statement that is no back, in order."""
    return [term for _, term in statement[1]] if statement[0] == "set" else list(statement[2])


def with_terms(statement, terms):
    """The statement with other whole terms, in order."""
    if statement[0] == "set":
        return ("set", tuple([(change[0], term) for change, term in zip(statement[1], terms)]), statement[2])
    return statement[:2] + (tuple(terms),) + statement[3:]


def plan_of(statement):
    """The statement with its terms laid out once, so that values can be put into them often.

    It is ("set", variables, laid, to), ("ask", act, laid, ways) or ("end", word, laid).
    """
    plan = laid(terms_in(statement))
    if statement[0] == "set":
        return ("set", tuple([change[0] for change in statement[1]]), plan, statement[2])
    return statement[:2] + (plan,) + statement[3:]


def leads(statement):
    """The list of the places to which a statement leads, a call too, those of ways in order."""
    if statement[0] == "set":
        return [statement[2]]
    if statement[0] == "call":
        return [statement[4]]
    return [way[2] for way in statement[3]] if statement[0] == "ask" else []


def restated(statement, order, tos):
    """The statement with the variable order[v] in the place of v, that leads to the places tos, in order."""
    moved = with_terms(statement, put_all(terms_in(statement), order))
    if statement[0] == "set":
        return ("set", tuple([(order[variable], term) for variable, term in moved[1]]), tos[0])
    if statement[0] == "ask":
        ways = [(way[0], tuple([order[variable] for variable in way[1]]), to) for way, to in zip(statement[3], tos)]
        return moved[:3] + (tuple(ways),)
    if statement[0] == "call":
        return moved[:3] + (tuple([order[variable] for variable in statement[3]]), tos[0])
    return moved
