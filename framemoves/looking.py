"""The kept roads of a code, and the least patterns of the values to which they lead."""

from framemoves.tables import Table
from framemoves.walking import first_frame, frame_behind_set, frame_behind_way


class Looks:
    """What comes of a look at the roads of a code in their order.

    For each place kept is the list of the tuples (road, values) of the kept roads to it, and patterns
    has the least pattern of their values, or None; values and patterns are numbers in the table.
    """

    def __init__(self, code):
        self.table = Table([])
        self.kept = [[] for _ in range(len(code))]
        self.patterns = [None for _ in range(len(code))]

    def keep(self, road, frame):
        """Whether a road that leads to a frame is kept; if so, the pattern of its place becomes wider."""
        place, values = frame
        pattern = self.patterns[place]
        if pattern is not None and self.table.fit(pattern, values):
            return False
        self.patterns[place] = list(values) if pattern is None else self.table.least(pattern, values)
        self.kept[place].append((road, values))
        return True


def last_kept(looks, code, outcomes, frame, most):
    """The frame of the last kept one of the roads with some outcomes, if an ask stands there, or None.

    The frame is that behind the outcomes; sets are done as long as the roads are kept.
    """
    steps = 0
    while looks.keep((outcomes, steps), frame):
        kind = code.plans[frame[0]][0]
        if kind != "set":
            return frame if kind == "ask" else None
        frame = frame_behind_set(looks.table, code, frame, most)
        steps += 1
    return None


def looks_at(code, most):
    """The Looks at the roads of a code."""
    looks = Looks(code)
    # Roads behind others have their outcomes first, so that a list for each number of outcomes is in order.
    ahead = [((), first_frame(looks.table, code, most), code.given)]
    while ahead:
        following = []
        for outcomes, frame, fresh in ahead:
            asked = last_kept(looks, code, outcomes, frame, most)
            if asked is None:
                continue
            for way in code.plans[asked[0]][3]:
                behind = frame_behind_way(looks.table, way, asked[1], fresh)
                following.append((outcomes + (way[0],), behind, fresh + len(way[1])))
        ahead = following
    return looks
