"""Histories of a yard: how frames go on by statements and by moves, and what they show."""

from framemoves.errors import Broken
from framemoves.grounds import SILENT, Ground
from framemoves.kinds import is_integer
from framemoves.tables import Table
from framemoves.walking import bounded, head_of

MOST = 200


class Walk:
    """A walk along a history of a yard: it has a frame of a version, and what has been shown."""

    def __init__(self, yard, version, frame, fresh):
        self._ground = Ground(yard)
        self._table = Table([])
        self._frame = (version, frame[0], tuple(self._table.taken(frame[1])))
        self._fresh = fresh
        self._shown = []

    def frame(self):
        """The tuple (version, place, values) that is come to."""
        version, place, values = self._frame
        return (version, place, tuple(self._table.told(values)))

    def fresh(self):
        """The next unknown that an outcome brings."""
        return self._fresh

    def goes(self, item):
        """Whether an item can come next; if so, it comes."""
        version, place, values = self._frame
        if not self._ground.can_come((version, place), item):
            return False
        if isinstance(item, str) and item != "":
            self._shown.append(self._told(head_of(self._table, self._ground.codes[version], (place, values))))
        self._frame, self._fresh = self._ground.behind(self._table, self._frame, item, self._fresh)
        bounded(self._table, self._frame[2], MOST)
        return True

    def _told(self, head):
        """What is seen, with its terms."""
        return head if head == SILENT else head[:2] + (tuple(self._table.told(head[2])),)

    def shown(self):
        """The list of what has been shown on the way."""
        return list(self._shown)

    def seen_next(self):
        """What is seen next by sets and must moves alone."""
        return self._told(self._ground.seen_next(self._table, self._frame, MOST))


def walk_along(yard, history):
    """The Walk along a whole history."""
    if len(history) == 0 or history[0] not in yard.begins:
        raise Broken(0)
    walk = Walk(yard, history[0], yard.versions()[history[0]].first(), yard.true.given)
    for at in range(1, len(history)):
        if not walk.goes(history[at]):
            raise Broken(at)
    return walk


def frame_of(yard, history):
    """The tuple (version, place, values) to which a history leads."""
    return walk_along(yard, history).frame()


def is_history(yard, thing):
    """Whether any value is a history of a yard."""
    if not (isinstance(thing, list) and all([isinstance(item, str) or is_integer(item) for item in thing])):
        return False
    try:
        walk_along(yard, thing)
    except Broken:
        return False
    return True


def shown(yard, history):
    """The list of what is seen in a history and next behind it."""
    walk = walk_along(yard, history)
    return walk.shown() + [walk.seen_next()]
