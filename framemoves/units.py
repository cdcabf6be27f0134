"""Units: functions that call one another."""

from framemoves.errors import BadFunction, NoFunction, Wrong
from framemoves.kinds import is_below, is_name
from framemoves.statements import are_different_variables, are_terms_over, in_order, is_statement
from framemoves.worlds import World

MOST_VARIABLES = 8
MOST_RESULTS = 2
MOST_DEEP = 3


def is_function(thing):
    """Whether any value is a tuple (variables, given, results, statements), of whatever statements."""
    if not (isinstance(thing, tuple) and len(thing) == 4 and is_below(thing[0], MOST_VARIABLES + 1)):
        return False
    if not (is_below(thing[1], thing[0] + 1) and is_below(thing[2], MOST_RESULTS + 1)):
        return False
    return isinstance(thing[3], (list, tuple)) and len(thing[3]) > 0


def is_call(functions, variables, places, item):
    """Whether a tuple is a statement ("call", function, terms, targets, to)."""
    if not (len(item) == 5 and isinstance(item[1], str) and item[1] in functions and is_below(item[4], places)):
        return False
    called = functions[item[1]]
    if not (isinstance(item[3], tuple) and len(item[3]) == called[2]):
        return False
    return are_different_variables(variables, item[3]) and are_terms_over(variables, called[1], item[2])


def is_statement_of(world, functions, function, item):
    """Whether any value is a statement of a function."""
    variables, _, results, statements = function
    if isinstance(item, tuple) and len(item) > 0 and isinstance(item[0], str):
        if item[0] == "call":
            return is_call(functions, variables, len(statements), item)
        if item[0] == "back":
            return len(item) == 2 and are_terms_over(variables, results, item[1])
    return is_statement(world, variables, len(statements), item)


def called_by(functions):
    """A dict from functions to the lists of those that they call, each once."""
    return {name: list({item[1]: True for item in functions[name][3] if item[0] == "call"}) for name in functions}


def reached_from(calls, name):
    """A dict with the functions to which calls lead from a function."""
    found = {}
    ahead = list(calls[name])
    while ahead:
        called = ahead.pop()
        if called not in found:
            found[called] = True
            ahead.extend(calls[called])
    return found


def least_round(calls):
    """The least function that may call itself, by others too, or None."""
    for name in sorted(calls):
        if name in reached_from(calls, name):
            return name
    return None


def least_deep(calls):
    """The least function from which calls may be too deep, or None; none calls itself."""
    # A function is among those of a level if so many further calls may come from it.
    level = sorted(calls)
    for _ in range(MOST_DEEP):
        kept = {name: True for name in level}
        level = [name for name in level if any([called in kept for called in calls[name]])]
    return level[0] if level else None


def need_functions(world, functions):
    """Raise BadFunction(name) for the least function that is none of a unit, by what is looked for first."""
    for name in sorted(functions):
        if not is_function(functions[name]):
            raise BadFunction(name)
    for name in sorted(functions):
        if not all([is_statement_of(world, functions, functions[name], item) for item in functions[name][3]]):
            raise BadFunction(name)
    calls = called_by(functions)
    for name in [least_round(calls), least_deep(calls)]:
        if name is not None:
            raise BadFunction(name)


class Unit:
    """A unit: functions of a world by their names."""

    def __init__(self, world, functions):
        if not isinstance(world, World):
            raise Wrong(0)
        if not (isinstance(functions, dict) and len(functions) > 0 and all([is_name(name) for name in functions])):
            raise Wrong(1)
        need_functions(world, functions)
        self._world = world
        self._functions = {}
        for name, (variables, given, results, statements) in functions.items():
            kept = tuple([in_order(statement) for statement in statements])
            self._functions[name] = (variables, given, results, kept)

    @property
    def world(self):
        """The World of the unit."""
        return self._world

    def functions(self):
        """The ascending list of the names of the functions."""
        return sorted(self._functions)

    def function(self, name):
        """The tuple (variables, given, results, statements) of a function."""
        if name not in self._functions:
            raise NoFunction(name)
        return self._functions[name]

    def __eq__(self, other):
        return isinstance(other, Unit) and self._world == other._world and self._functions == other._functions
