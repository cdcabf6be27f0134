"""The needs of all pairs of places of two codes, round by round.

Needs are a tuple of solved rows (variable, number of a term), or None.
"""

from framemoves.beside import Beside
from framemoves.joining import bounded_rows, hold, with_values


def seen_from(beside, one, other):
    """A dict from pairs of places of asks and ends to the pairs from which they are seen next, with all values there.

    The key None has those of which something is seen from one place alone.
    """
    found = {None: []}
    for pair in [(place, there) for place in range(len(one)) for there in range(len(other))]:
        view = beside.view(pair[0], pair[1])
        if view is None:
            found[None].append((pair, None))
        elif view:
            found.setdefault(view[0], []).append((pair, view[1]))
    return found


def uses_of(cores):
    """A dict from pairs of places to the list of the pairs of asks that they follow."""
    found = {}
    for pair, core in cores.items():
        for places, _ in [] if core is None else core[1]:
            found.setdefault(places, []).append(pair)
    return found


class Rounds:
    """The needs behind each round, until one changes nothing, of two codes beside one another.

    rounds is the list of the dicts from pairs of places to their needs, last the last one of these.
    """

    def __init__(self, one, other, most):
        self.beside = Beside(one, other, most)
        self._most = most
        self._seen = seen_from(self.beside, one, other)
        self._uses = uses_of(self.beside.cores)
        self.last = {(place, there): () for place in range(len(one)) for there in range(len(other))}
        self.rounds = [self.last]
        changes = self._first_changes()
        while changes:
            self.last = {pair: changes[pair] if pair in changes else needs for pair, needs in self.last.items()}
            self.rounds.append(self.last)
            changes = self._next_changes(changes)

    def _rows_of(self, pairs):
        """The rows of pairs of terms that must be equal, or None."""
        return bounded_rows(self.beside.table, self.beside.many, pairs, self._most)

    def _changes_at(self, pair, rows):
        """If these are the new needs of the pair, a dict from pairs from which it is seen next to their new needs."""
        if rows == self.last[pair]:
            return {}
        found = {}
        for origin, values in self._seen[pair]:
            needs = rows
            if rows is not None and origin != pair:
                needs = self._rows_of(with_values(self.beside.table, rows, values))
            if needs != self.last[origin]:
                found[origin] = needs
        return found

    def _first_changes(self):
        """A dict from the pairs of places for which round 1 changes something to their needs then."""
        found = {pair: None for pair, _ in self._seen[None]}
        for pair, core in self.beside.cores.items():
            found.update(self._changes_at(pair, None if core is None else self._rows_of(core[0])))
        return found

    def _rows_behind(self, pair, changes):
        """The rows of two asks behind a round, changes being what the round ahead has changed."""
        pairs = list(self.last[pair])
        for places, values in self.beside.cores[pair][1]:
            if places in changes:
                if changes[places] is None:
                    return None
                pairs.extend(with_values(self.beside.table, changes[places], values))
        return self._rows_of(pairs)

    def _next_changes(self, changes):
        """A dict from the pairs of places for which a further round changes something to their needs then."""
        found = {}
        for pair in {pair: True for places in changes for pair in self._uses.get(places, [])}:
            if self.last[pair] is not None:
                found.update(self._changes_at(pair, self._rows_behind(pair, changes)))
        return found

    def parted_at(self, places, values):
        """The number of the first round whose needs values of all variables at two places do not satisfy, or None."""
        if hold(self.beside.table, self.last[places], values):
            return None
        return [hold(self.beside.table, needs[places], values) for needs in self.rounds].index(False)

    def least_parting(self, places, values, code):
        """Of the shortest lists of outcomes behind which not the same is seen next, the least, or None.

        The values are those of all variables at two places, code is the first one of the codes.
        """
        at = self.parted_at(places, values)
        if at is None:
            return None
        outcomes = []
        # What parts behind a number of outcomes parts behind one less of them if the first one has come.
        while at > 1:
            at = at - 1
            ways = code.plans[code.showing(places[0])][3]
            # Unknowns below 0 stand in no frame that is handed in.
            behind = self.beside.frames_behind(places[0], places[1], values, -2 * len(outcomes) - 2)
            chosen = [hold(self.beside.table, self.rounds[at][to], worths) for to, worths in behind].index(False)
            outcomes.append(ways[chosen][0])
            places, values = behind[chosen]
        return outcomes
