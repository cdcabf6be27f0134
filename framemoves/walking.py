"""How frames go on whose values are numbers of terms in a Table, while these stay small enough.

Such a frame is a tuple (place, values) as others are.
"""

from framemoves.errors import TooMany
from framemoves.stepping import way_from


def bounded(table, values, most):
    """The values, if they have no more than most operations together; there is no such bound if most is None."""
    if most is not None and table.size_of(values) > most:
        raise TooMany(most)
    return values


def first_frame(table, code, most):
    """The first frame of a code."""
    place, values = code.first()
    return (place, bounded(table, tuple(table.taken(values)), most))


def with_worths(values, variables, worths):
    """The tuple of the values, those of some variables replaced by others."""
    found = list(values)
    for variable, worth in zip(variables, worths):
        found[variable] = worth
    return tuple(found)


def values_behind_set(table, plan, values):
    """The values behind the set with a plan."""
    return with_worths(values, plan[1], table.worked(plan[2], values))


def frame_behind_set(table, code, frame, most):
    """The frame behind the set that stands at the place of a frame."""
    place, values = frame
    plan = code.plans[place]
    return (plan[3], bounded(table, values_behind_set(table, plan, values), most))


def frame_behind_way(table, way, values, fresh):
    """The frame behind an outcome (outcome, variables, to) that brings the unknowns fresh, fresh + 1."""
    brought = [table.number_of((fresh + at,)) for at in range(len(way[1]))]
    return (way[2], with_worths(values, way[1], brought))


def frame_at(table, code, frame, goal, most):
    """The frame at the place goal to which sets lead from a frame."""
    while frame[0] != goal:
        frame = frame_behind_set(table, code, frame, most)
    return frame


def head_of(table, code, frame):
    """What the ask or the end shows that stands at the place of a frame, with the numbers of its terms."""
    place, values = frame
    plan = code.plans[place]
    return plan[:2] + (tuple(table.worked(plan[2], values)),)


class Trail:
    """The frames to which sets lead from a frame, one behind another."""

    def __init__(self, table, code, frame, most):
        self._table = table
        self._code = code
        self._most = most
        self._frame = frame
        self._frames = []
        self._met = {}

    def went_round(self):
        """Whether the next frame has come before; otherwise it is kept, and the one behind it is the next one."""
        key = (self._frame[0],) + self._frame[1]
        if key in self._met:
            return True
        following = frame_behind_set(self._table, self._code, self._frame, self._most)
        self._met[key] = len(self._frames)
        self._frames.append(self._frame)
        self._frame = following
        return False

    def frame_behind(self, steps):
        """The frame behind so many sets."""
        while len(self._frames) < steps:
            # The frames come again from here on, so that no further one is worked out.
            if self.went_round():
                first = self._met[(self._frame[0],) + self._frame[1]]
                return self._frames[first + (steps - first) % (len(self._frames) - first)]
        return self._frame if len(self._frames) == steps else self._frames[steps]


def trail_behind(table, code, outcomes, most):
    """The Trail of the frame right behind the last one of outcomes that can come one after another."""
    frame = first_frame(table, code, most)
    fresh = code.given
    for outcome in outcomes:
        goal = code.showing(frame[0])
        way = way_from(code, goal, outcome)
        frame = frame_behind_way(table, way, frame_at(table, code, frame, goal, most)[1], fresh)
        fresh = fresh + len(way[1])
    return Trail(table, code, frame, most)
