"""Roads: which outcomes and further sets lead from the first frame to another one."""

from framemoves.errors import Broken, TooMany
from framemoves.kinds import is_below, is_outcome
from framemoves.stepping import way_from
from framemoves.tables import Table
from framemoves.walking import trail_behind

MOST_STEPS = 9999


def place_behind_sets(code, place, steps):
    """The place to which so many sets lead from a place, or None if they do not follow."""
    met = []
    while steps > len(met) and place not in met:
        statement = code.statement(place)
        if statement[0] != "set":
            return None
        met.append(place)
        place = statement[2]
    if steps == len(met):
        return place
    # The sets go round from this place on, for ever.
    first = met.index(place)
    return met[first + (steps - first) % (len(met) - first)]


def end_of(code, road):
    """A tuple (place, at): the place to which a road leads and None, or None and the index that is broken."""
    # Where a road leads does not hang on values, so that it is known before any value is worked out.
    outcomes, steps = road
    place = 0
    for at, outcome in enumerate(outcomes):
        way = way_from(code, code.showing(place), outcome)
        if way is None:
            return (None, at)
        place = way[2]
    place = place_behind_sets(code, place, steps)
    return (place, len(outcomes) if place is None else None)


def road_frame(code, road, *, most=200):
    """The frame to which a road leads."""
    at = end_of(code, road)[1]
    if at is not None:
        raise Broken(at)
    table = Table([])
    place, values = trail_behind(table, code, road[0], most).frame_behind(road[1])
    return (place, tuple(table.told(values)))


def place_of(code, thing):
    """The place to which any value leads, if it is a road of the code, or None."""
    if not (isinstance(thing, tuple) and len(thing) == 2 and isinstance(thing[0], tuple)):
        return None
    if not (all([is_outcome(outcome) for outcome in thing[0]]) and is_below(thing[1], MOST_STEPS + 1)):
        return None
    return end_of(code, thing)[0]


def is_road(code, thing):
    """Whether any value is a road of the code."""
    return place_of(code, thing) is not None


def values_of_roads(table, code, place, thing, most):
    """The list of the values, numbers in a Table, to which different roads to a place lead.

    It is None if any value thing is no list of these, or if the values on the way have more than most operations.
    """
    if not isinstance(thing, list):
        return None
    trails = {}
    found = {}
    for road in thing:
        if place_of(code, road) != place or road in found:
            return None
        outcomes, steps = road
        try:
            if outcomes not in trails:
                trails[outcomes] = trail_behind(table, code, outcomes, most)
            found[road] = trails[outcomes].frame_behind(steps)[1]
        except TooMany:
            return None
    return list(found.values())
