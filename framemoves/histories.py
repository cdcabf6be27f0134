"""Histories of a yard: how frames go on by statements and by moves, and what they show."""

from framemoves.errors import Broken
from framemoves.kinds import is_integer
from framemoves.stepping import way_from
from framemoves.tables import Table
from framemoves.walking import bounded, first_frame, frame_behind_set, frame_behind_way

MOST = 200


class Walk:
    """A walk along a history of a yard: it has a frame of a version, and what has been shown."""

    def __init__(self, yard, version):
        self._versions = yard.versions()
        self._moves = yard.moves()
        self._musts = {(move[0], move[1]): at for at, move in enumerate(self._moves) if move[5] == "must"}
        self._table = Table([])
        self._version = version
        self._frame = first_frame(self._table, self._versions[version], MOST)
        self._fresh = yard.true.given
        self._shown = []

    def frame(self):
        """The tuple (version, place, values) that is come to."""
        place, values = self._frame
        return (self._version, place, tuple(self._table.told(values)))

    def goes(self, item):
        """Whether an item can come next; if so, it comes."""
        if is_integer(item):
            return self._goes_by_move(item)
        if (self._version, self._frame[0]) in self._musts:
            return False
        return self._goes_by_set() if item == "" else self._goes_by_outcome(item)

    def _goes_by_move(self, at):
        """Whether the move with an index stands here; if so, it is made."""
        place, values = self._frame
        if not (0 <= at < len(self._moves) and self._moves[at][:2] == (self._version, place)):
            return False
        move = self._moves[at]
        made = tuple(self._table.worked(move[4].plan, values))
        self._frame = (move[3], bounded(self._table, made, MOST))
        self._version = move[2]
        return True

    def _goes_by_set(self):
        """Whether a set stands here; if so, it is done."""
        code = self._versions[self._version]
        if code.plans[self._frame[0]][0] != "set":
            return False
        self._frame = frame_behind_set(self._table, code, self._frame, MOST)
        return True

    def _goes_by_outcome(self, outcome):
        """Whether an act with such an outcome stands here; if so, it comes out so."""
        place, values = self._frame
        way = way_from(self._versions[self._version], place, outcome)
        if way is None:
            return False
        self._shown.append(self._head())
        self._frame = frame_behind_way(self._table, way, values, self._fresh)
        self._fresh = self._fresh + len(way[1])
        return True

    def _head(self):
        """What the ask or the end shows that stands here."""
        place, values = self._frame
        plan = self._versions[self._version].plans[place]
        return plan[:2] + (tuple(self._table.told(self._table.worked(plan[2], values))),)

    def _items_ahead(self):
        """The list of the items of sets and must moves alone that lead to what is seen next; None if they never do."""
        where = (self._version, self._frame[0])
        met = {}
        while where not in met:
            plan = self._versions[where[0]].plans[where[1]]
            if where in self._musts:
                met[where] = self._musts[where]
                where = self._moves[self._musts[where]][2:4]
            elif plan[0] == "set":
                met[where] = ""
                where = (where[0], plan[3])
            else:
                return list(met.values())
        return None

    def shown_to_end(self):
        """The list of what has been shown and of what is seen next, to which it goes."""
        items = self._items_ahead()
        if items is None:
            return self._shown + [("silent",)]
        for item in items:
            self.goes(item)
        return self._shown + [self._head()]


def walk_along(yard, history):
    """The Walk along a whole history."""
    if len(history) == 0 or history[0] not in yard.begins:
        raise Broken(0)
    walk = Walk(yard, history[0])
    for at in range(1, len(history)):
        if not walk.goes(history[at]):
            raise Broken(at)
    return walk


def frame_of(yard, history):
    """The tuple (version, place, values) to which a history leads."""
    return walk_along(yard, history).frame()


def is_history(yard, thing):
    """Whether any value is a history of a yard."""
    if not (isinstance(thing, list) and all([isinstance(item, str) or is_integer(item) for item in thing])):
        return False
    try:
        walk_along(yard, thing)
    except Broken:
        return False
    return True


def shown(yard, history):
    """The list of what is seen in a history and next behind it."""
    return walk_along(yard, history).shown_to_end()
