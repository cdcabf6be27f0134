"""Facts: the least pattern of the values of all frames to which runs come at a place."""

from framemoves.checks import need_place
from framemoves.looking import looks_at
from framemoves.patterns import Pattern
from framemoves.roads import values_of_roads
from framemoves.tables import Table
from framemoves.walking import frame_behind_way, values_behind_set

# Unknowns that are brought stand nowhere else if they are below 0.
NEW = -2


def pattern_at(looks, place):
    """The fact of a place by Looks, or None."""
    numbers = looks.patterns[place]
    return None if numbers is None else Pattern(looks.table.told(numbers))


def kept_roads(code, place, *, most=200):
    """The list of the kept roads to a place, in their order."""
    need_place(code, place)
    return [road for road, _ in looks_at(code, most).kept[place]]


def fact(code, place, *, most=200):
    """The fact of a place, a Pattern, or None."""
    need_place(code, place)
    return pattern_at(looks_at(code, most), place)


def facts(code, *, most=200):
    """The list of the facts of all places."""
    looks = looks_at(code, most)
    return [pattern_at(looks, place) for place in range(len(code))]


def frames_from(table, code, place, values):
    """The list of the frames that can come next behind values at a place, with unknowns of their own brought."""
    plan = code.plans[place]
    if plan[0] == "set":
        return [(plan[3], values_behind_set(table, plan, values))]
    if plan[0] == "ask":
        return [frame_behind_way(table, way, values, NEW) for way in plan[3]]
    return []


def are_patterns(code, thing):
    """Whether any value is a list with a Pattern of values of the code, or None, for each place."""
    if not (isinstance(thing, list) and len(thing) == len(code)):
        return False
    patterns = [item for item in thing if item is not None]
    return all([isinstance(item, Pattern) and len(item) == code.variables for item in patterns])


def are_facts(code, thing):
    """Whether any value is a list of Patterns, or None, within which all frames stay to which runs come."""
    if not are_patterns(code, thing):
        return False
    table = Table([])
    patterns = [None if item is None else table.taken(item.terms) for item in thing]
    frames = [(0, table.taken(code.first()[1]))]
    for place, terms in enumerate(patterns):
        if terms is not None:
            frames.extend(frames_from(table, code, place, terms))
    return all([patterns[to] is not None and table.fit(patterns[to], values) for to, values in frames])


def shows_fact(code, place, thing, *, most=200):
    """Whether any value is a list of different roads to a place whose values show its fact."""
    need_place(code, place)
    looks = looks_at(code, most)
    found = values_of_roads(looks.table, code, place, thing, most)
    return bool(found) and Pattern(looks.table.told(looks.table.least_of(found))) == pattern_at(looks, place)
