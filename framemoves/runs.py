"""Runs of a code, and what they show."""

from framemoves.errors import Broken, Unfit
from framemoves.stepping import behind_way, led_on, way_from
from framemoves.terms import put_all

MOST = 200


def onward(code, frame):
    """The frame at the first statement that is no set, or None at a silent place."""
    goal = code.showing(frame[0])
    if goal is None:
        return None
    return led_on(code, frame, goal, MOST)


def head(code, frame):
    """What is seen next of a frame."""
    last = onward(code, frame)
    if last is None:
        return ("silent",)
    place, values = last
    statement = code.statement(place)
    return (statement[0], statement[1], tuple(put_all(statement[2], values)))


def answered_way(code, frame, outcome):
    """The way of an outcome and the values with which it is come to, or None if it is no outcome there."""
    last = onward(code, frame)
    if last is None:
        return None
    place, values = last
    way = way_from(code, place, outcome)
    if way is None:
        return None
    return (way, values)


def answered(code, frame, outcome, fresh):
    """The frame right behind an outcome that brings the unknowns fresh, fresh + 1."""
    found = answered_way(code, frame, outcome)
    if found is None:
        raise Unfit()
    way, values = found
    return behind_way(way, values, fresh, MOST)


def frames_along(code, outcomes):
    """The first frame and the frames right behind each of the outcomes, in order."""
    frames = [code.first()]
    fresh = code.given
    for at, outcome in enumerate(outcomes):
        found = answered_way(code, frames[-1], outcome)
        if found is None:
            raise Broken(at)
        way, values = found
        frames.append(behind_way(way, values, fresh, MOST))
        fresh = fresh + len(way[1])
    return frames


def frame_after(code, outcomes):
    """The frame right behind the last outcome of a run."""
    return frames_along(code, outcomes)[-1]


def seen(code, outcomes):
    """The list of what is seen in a run."""
    return [head(code, frame) for frame in frames_along(code, outcomes)]


def is_run(code, thing):
    """Whether any value is a list of outcomes that is a run of the code."""
    if not (isinstance(thing, list) and all([isinstance(item, str) for item in thing])):
        return False
    try:
        seen(code, thing)
    except Broken:
        return False
    return True
