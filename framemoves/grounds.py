"""What stands where in a yard, and what its items make of frames.

A frame of a yard is a tuple (version, place, values) here, whose values are numbers of terms in a
Table. Of an item nothing is bounded; what is seen next may be.
"""

from framemoves.kinds import is_integer
from framemoves.stepping import way_from
from framemoves.walking import bounded, frame_behind_way, head_of, values_behind_set

SILENT = ("silent",)


class Ground:
    """The codes and the moves of a yard, in order, and which moves stand at which (version, place)."""

    def __init__(self, yard):
        self.codes = yard.versions()
        self.jumps = yard.moves()
        self.musts = {}
        self.mays = {}
        for at, move in enumerate(self.jumps):
            if move[5] == "must":
                self.musts[move[0], move[1]] = at
            else:
                self.mays.setdefault((move[0], move[1]), []).append(at)

    def plan_at(self, where):
        """The plan of the statement at a (version, place)."""
        return self.codes[where[0]].plans[where[1]]

    def can_come(self, where, item):
        """Whether an item of a history can come next at a (version, place)."""
        if is_integer(item):
            return 0 <= item < len(self.jumps) and self.jumps[item][:2] == where
        if where in self.musts:
            return False
        if item == "":
            return self.plan_at(where)[0] == "set"
        return way_from(self.codes[where[0]], where[1], item) is not None

    def items_at(self, where):
        """The list of the items that can come next at a (version, place), in order, strings ahead of numbers."""
        if where in self.musts:
            return [self.musts[where]]
        plan = self.plan_at(where)
        items = [""] if plan[0] == "set" else []
        if plan[0] == "ask":
            items = [way[0] for way in plan[3]]
        return items + self.mays.get(where, [])

    def items_ahead(self, where):
        """The list of the items of sets and must moves alone that lead to what is seen next; None if they never do."""
        met = {}
        while where not in met:
            plan = self.plan_at(where)
            if where in self.musts:
                met[where] = self.musts[where]
                where = self.jumps[self.musts[where]][2:4]
            elif plan[0] == "set":
                met[where] = ""
                where = (where[0], plan[3])
            else:
                return list(met.values())
        return None

    def behind(self, table, frame, item, fresh):
        """The frame behind an item that can come and brings the unknowns from fresh on, and the next unknown then."""
        version, place, values = frame
        if is_integer(item):
            move = self.jumps[item]
            return (move[2:4] + (tuple(table.worked(move[4].plan, values)),), fresh)
        if item == "":
            plan = self.plan_at((version, place))
            return ((version, plan[3], values_behind_set(table, plan, values)), fresh)
        way = way_from(self.codes[version], place, item)
        return ((version,) + frame_behind_way(table, way, values, fresh), fresh + len(way[1]))

    def seen_next(self, table, frame, most):
        """What is seen next of a frame by sets and must moves alone, with the numbers of its terms.

        The values on the way there have no more than most operations.
        """
        items = self.items_ahead(frame[:2])
        if items is None:
            return SILENT
        for item in items:
            frame = self.behind(table, frame, item, 0)[0]
            bounded(table, frame[2], most)
        return head_of(table, self.codes[frame[0]], frame[1:])
