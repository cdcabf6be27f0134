"""Choices of variables as integers.

The bit i of a choice tells whether the variable i is chosen. Some choices are an integer, too: its bit
c tells whether the choice c is one of them.
"""

from framemoves.kinds import is_below
from framemoves.tables import Table


def all_choices(many):
    """All choices of so many variables."""
    return (1 << (1 << many)) - 1


def has(choices, choice):
    """Whether a choice is one of choices."""
    return choices >> choice & 1 == 1


def choices_for(many, holds):
    """The choices of so many variables for which a list tells that it holds."""
    return sum([1 << choice for choice in range(1 << many) if holds[choice]])


def choices_with(many):
    """A list with the choices of so many variables that have it for each variable."""
    return [choices_for(many, [has(choice, variable) for choice in range(1 << many)]) for variable in range(many)]


def choices_that_build(terms, values):
    """The choices of values from which all terms can be built."""
    table = Table([])
    numbers = table.taken(terms)
    kept = {}
    for number, choices in zip(table.taken(values), choices_with(len(values))):
        kept[number] = kept.get(number, 0) | choices
    every = all_choices(len(values))
    found = []
    for number, node in enumerate(table.nodes):
        by_parts = every if isinstance(node[0], str) else 0
        for part in node[1:]:
            by_parts = by_parts & found[part]
        found.append(by_parts | kept.get(number, 0))
    for number in numbers:
        every = every & found[number]
    return every


def least_choices(many, choices):
    """The list of the choices that are none of choices any more if any variable is taken out."""
    found = [choice for choice in range(1 << many) if has(choices, choice)]
    return [choice for choice in found
            if not any([has(choice, at) and has(choices, choice - (1 << at)) for at in range(many)])]


def listed(many, choice):
    """The ascending list of the variables of a choice."""
    return [variable for variable in range(many) if has(choice, variable)]


def choice_of(many, thing):
    """The choice of any value, if it is an ascending list of different variables, or None."""
    if not (isinstance(thing, list) and all([is_below(variable, many) for variable in thing])):
        return None
    if not all([low < high for low, high in zip(thing, thing[1:])]):
        return None
    return sum([1 << variable for variable in thing])
