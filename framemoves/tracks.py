"""A yard and its true code, gone through side by side.

A pair is a tuple (known, frame): a frame (there, values) of the true code, right behind the last
outcome, and a frame (version, place, values) of the yard; values are numbers in a Table.
"""

from framemoves.grounds import SILENT, Ground
from framemoves.kinds import is_integer
from framemoves.stepping import way_from
from framemoves.tables import Table
from framemoves.walking import bounded, first_frame, frame_at, frame_behind_way, head_of


def standing_of(pair):
    """The standing (there, version, place) of a pair."""
    return pair[0][:1] + pair[1][:2]


def values_of(pair):
    """The values of a pair, those of the true code ahead."""
    return pair[0][1] + pair[1][2]


class Tracks:
    """How pairs go on, with at most most operations in the values; they are not bounded if most is None."""

    def __init__(self, yard, most):
        self.table = Table([])
        self._ground = Ground(yard)
        self._true = yard.true
        self._most = most

    def first_pair(self, version):
        """The pair of first frames, if it begins in a version."""
        code = self._ground.codes[version]
        known = first_frame(self.table, self._true, self._most)
        return (known, (version,) + first_frame(self.table, code, self._most))

    def shows_same(self, pair):
        """Whether what is seen next is the same of both frames."""
        known, frame = pair
        bounded(self.table, values_of(pair), self._most)
        goal = self._true.showing(known[0])
        head = SILENT if goal is None else head_of(self.table, self._true, self._true_at(known, goal))
        return head == self._ground.seen_next(self.table, frame, self._most)

    def _true_at(self, known, goal):
        """The frame of the true code at the place goal, to which sets lead."""
        return frame_at(self.table, self._true, known, goal, self._most)

    def _true_behind(self, known, item, fresh):
        """The frame of the true code right behind an item that can come, which changes nothing if it is no outcome."""
        if is_integer(item) or item == "":
            return known
        goal = self._true.showing(known[0])
        way = way_from(self._true, goal, item)
        return frame_behind_way(self.table, way, self._true_at(known, goal)[1], fresh)

    def pairs_behind(self, pair, fresh):
        """The list of the tuples (item, pair, fresh) behind each item that can come, in order.

        What is seen next of both frames is the same. Outcomes bring the unknowns from fresh on.
        """
        known, frame = pair
        found = []
        for item in self._ground.items_at(frame[:2]):
            behind, following = self._ground.behind(self.table, frame, item, fresh)
            found.append((item, (self._true_behind(known, item, fresh), behind), following))
        return found
