"""The needs of all standings of a yard, round by round.

A standing is a tuple (there, version, place) of a place of the true code and a place of a version. All
terms are numbers in a Table: its first unknowns are the variables of the true code, behind them those
of a version, as many as the widest one has, then the things that an outcome brings.
"""

from framemoves.beside import BROUGHT, Heads, core_of, start_of
from framemoves.grounds import Ground
from framemoves.joining import bounded_rows, hold, with_values
from framemoves.solving import with_rows
from framemoves.tables import Table
from framemoves.walking import values_behind_set


class Cores:
    """What the needs of the standings of a yard are made of.

    all_cores is a dict from all standings to None, if nothing satisfies their needs, or a tuple (pairs,
    behind) of the pairs of terms that must be equal, and a list of tuples (standing, values) of the
    standings whose needs are put back, with the values of all marked unknowns there.
    """

    def __init__(self, yard, most):
        self._ground = Ground(yard)
        self._known = tuple(range(yard.true.variables))
        self.free = len(self._known) + max([code.variables for code in self._ground.codes])
        self.table = Table(list(range(self.free)) + list(BROUGHT))
        self._brought = (self.free, self.free + 1)
        self._heads = Heads(self.table, yard.true, self._known, self._brought, most)
        self._starts = [self._start(there) for there in range(len(yard.true))]
        self.all_cores = {}
        for version, code in enumerate(self._ground.codes):
            for place in range(len(code)):
                self.all_cores.update(self._cores_at((version, place)))

    def _own(self, version):
        """The variables of a version, as its values."""
        return tuple(range(len(self._known), len(self._known) + self._ground.codes[version].variables))

    def _rest(self, many):
        """The marked unknowns behind so many ones."""
        return tuple(range(many, self.free)) + self._brought

    def _start(self, there):
        """As start_of, what is seen next from a place of the true code, over the values there, or None."""
        view = self._heads.views[there]
        if view is None:
            return None
        kind, terms, behind = self._heads.starts[view[0]]
        known = view[1] + self._rest(len(view[1]))
        moved = [(to, tuple(self.table.moved(worths, known))) for to, worths in behind]
        return (kind, self.table.moved(terms, known), moved)

    def _behind_jump(self, at):
        """The (version, place) behind the move with an index, and the values of all marked unknowns there."""
        move = self._ground.jumps[at]
        made = self._known + tuple(self.table.worked(move[4].plan, self._own(move[0])))
        return (move[2:4], made + self._rest(len(made)))

    def _behind_set(self, where):
        """The same behind the set at a (version, place)."""
        plan = self._ground.plan_at(where)
        made = self._known + values_behind_set(self.table, plan, self._own(where[0]))
        return ((where[0], plan[3]), made + self._rest(len(made)))

    def _led_at(self, where):
        """The list of these behind all that can come at a (version, place) but outcomes."""
        items = [item for item in self._ground.items_at(where) if not isinstance(item, str)]
        found = [self._behind_jump(item) for item in items]
        return found + [self._behind_set(where)] if self._ground.can_come(where, "") else found

    def _cores_at(self, where):
        """A dict from the standings at a (version, place) to their cores."""
        plan = self._ground.plan_at(where)
        is_act = plan[0] != "set" and where not in self._ground.musts
        shown = start_of(self.table, plan, self._own(where[0]), self._brought) if is_act else None
        led = self._led_at(where)
        is_silent = self._ground.items_ahead(where) is None
        found = {}
        for there, start in enumerate(self._starts):
            fits = (start is None) == is_silent
            found[(there,) + where] = self._core(there, where, shown, led) if fits else None
        return found

    def _core(self, there, where, shown, led):
        """The core of a standing from which something is seen of both or of none; shown is None if no act is there."""
        pairs = []
        behind = [((there,) + to, values) for to, values in led]
        if shown is not None:
            core = core_of(self._starts[there], shown, self._rest(len(self._known) + len(self._own(where[0]))))
            if core is None:
                return None
            pairs = core[0]
            behind = behind + [((to[0], where[0], to[1]), values) for to, values in core[1]]
        return (pairs, behind)


class Standings:
    """The needs of all standings behind the last round: a dict last from standings to solved rows, or None."""

    def __init__(self, yard, most):
        self._widths = [yard.true.variables + code.variables for code in yard.versions()]
        self._made = Cores(yard, most)
        self._most = most
        self._uses = {}
        for standing, core in self._made.all_cores.items():
            for to, _ in [] if core is None else core[1]:
                self._uses.setdefault(to, []).append(standing)
        self.last = {standing: () for standing in self._made.all_cores}
        changes = self._first_changes()
        while changes:
            self.last.update(changes)
            changes = self._next_changes(changes)

    def _rows_of(self, pairs):
        """The rows of pairs of terms that must be equal, or None."""
        return bounded_rows(self._made.table, self._made.free, pairs, self._most)

    def _first_changes(self):
        """A dict from the standings for which round 1 changes something to their needs then."""
        cores = self._made.all_cores
        found = {standing: None if core is None else self._rows_of(core[0]) for standing, core in cores.items()}
        return {standing: rows for standing, rows in found.items() if rows != ()}

    def _rows_behind(self, standing, changes):
        """The needs of a standing behind a further round, changes being what the round ahead has changed."""
        pairs = list(self.last[standing])
        for to, values in self._made.all_cores[standing][1]:
            if to in changes:
                if changes[to] is None:
                    return None
                pairs.extend(with_values(self._made.table, changes[to], values))
        return self._rows_of(pairs)

    def _next_changes(self, changes):
        """A dict from the standings for which a further round changes something to their needs then."""
        found = {}
        for standing in {standing: True for to in changes for standing in self._uses.get(to, [])}:
            if self.last[standing] is not None:
                rows = self._rows_behind(standing, changes)
                if rows != self.last[standing]:
                    found[standing] = rows
        return found

    def needs_at(self, standing):
        """The needs of a standing, Equations or None."""
        rows = self.last[standing]
        if rows is None:
            return None
        terms = self._made.table.told([number for _, number in rows])
        return with_rows(self._widths[standing[1]], [(row[0], term) for row, term in zip(rows, terms)])

    def are_met(self, standing, known, values, recipe):
        """Whether known values and those that a recipe makes of further values satisfy the needs of a standing."""
        table = self._made.table
        numbers = table.taken(known + values)
        made = table.worked(recipe.plan, numbers[len(known):])
        return hold(table, self.last[standing], numbers[:len(known)] + made)
