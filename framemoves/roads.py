"""Roads: which outcomes and further sets lead from the first frame to another one."""

from framemoves.errors import Broken
from framemoves.kinds import is_below, is_outcome
from framemoves.stepping import behind_set, behind_way, led_on, small, way_from

MOST_STEPS = 9999


def broken_at(code, road):
    """The index of the first outcome that cannot come, that behind the last one for sets, or None."""
    # Where a road leads does not hang on values, so that it is known before any value is worked out.
    outcomes, steps = road
    place = 0
    for at, outcome in enumerate(outcomes):
        way = way_from(code, code.showing(place), outcome)
        if way is None:
            return at
        place = way[2]
    for _ in range(steps):
        statement = code.statement(place)
        if statement[0] != "set":
            return len(outcomes)
        place = statement[2]
    return None


def road_frame(code, road, *, most=200):
    """The frame to which a road leads."""
    at = broken_at(code, road)
    if at is not None:
        raise Broken(at)
    outcomes, steps = road
    place, values = code.first()
    small(values, most)
    fresh = code.given
    for outcome in outcomes:
        place, values = led_on(code, (place, values), code.showing(place), most)
        way = way_from(code, place, outcome)
        place, values = behind_way(way, values, fresh, most)
        fresh = fresh + len(way[1])
    for _ in range(steps):
        place, values = behind_set(code.statement(place), values, most)
    return (place, values)


def is_road(code, thing):
    """Whether any value is a road of the code."""
    if not (isinstance(thing, tuple) and len(thing) == 2 and isinstance(thing[0], tuple)):
        return False
    if not (all([is_outcome(outcome) for outcome in thing[0]]) and is_below(thing[1], MOST_STEPS + 1)):
        return False
    return broken_at(code, thing) is None
