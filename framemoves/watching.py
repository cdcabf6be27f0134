"""The kept histories of a yard, and the least patterns of the values to which they lead."""

from framemoves.tracks import Tracks, standing_of, values_of


class Watch:
    """What comes of a look at the histories of a yard in their order.

    parted is a history that is not right and has the fewest items, or None. For each standing kept has
    the list of the tuples (history, values) of its kept histories, in order, and patterns the least
    pattern of their values; values and patterns are numbers in the table. A look is a tuple (history,
    pair, fresh).
    """

    def __init__(self, yard, most):
        self._tracks = Tracks(yard, most)
        self.table = self._tracks.table
        self.kept = {}
        self.patterns = {}
        self.parted = None
        ahead = [([version], self._tracks.first_pair(version), yard.true.given) for version in yard.begins]
        while ahead:
            # All of these are looked at, so that values which are too great come ahead of what is not right.
            wrong = [history for history, pair, _ in ahead if not self._tracks.shows_same(pair)]
            following = []
            if wrong:
                self.parted = wrong[0]
            else:
                for history, pair, fresh in ahead:
                    following.extend(self.looks_behind(history, pair, fresh))
            ahead = following

    def keeps(self, history, pair):
        """Whether a history that leads to a pair is kept; if so, the pattern of its standing becomes wider."""
        standing, values = standing_of(pair), values_of(pair)
        pattern = self.patterns.get(standing)
        if pattern is not None and self.table.fit(pattern, values):
            return False
        self.patterns[standing] = list(values) if pattern is None else self.table.least(pattern, values)
        self.kept.setdefault(standing, []).append((history, values))
        return True

    def looks_behind(self, history, pair, fresh):
        """The looks at the histories with one item more, in order, if the history is kept."""
        if not self.keeps(history, pair):
            return []
        rows = self._tracks.pairs_behind(pair, fresh)
        return [(history + [item], behind, following) for item, behind, following in rows]
