"""Two codes beside one another: what is seen from pairs of their places, and what follows.

The variables of the second code are numbered on from those of the first one. All terms are numbers in
a Table, in which the variables and the things that an outcome brings, the same ones for both codes,
are the marked unknowns.
"""

from framemoves.tables import Table
from framemoves.walking import frame_at, with_worths

BROUGHT = (-1, -2)


def start_of(table, plan, values, brought):
    """For the plan of an ask or an end its kind, its terms, and the frames behind its outcomes, in order."""
    ways = plan[3] if plan[0] == "ask" else ()
    behind = [(way[2], with_worths(values, way[1], brought)) for way in ways]
    return (plan[:2], table.worked(plan[2], values), behind)


class Heads:
    """What is seen next from the places of a code, with some values there.

    views has for each place the frame at what is seen next, or None; starts has for each place of an
    ask or an end what start_of tells.
    """

    def __init__(self, table, code, values, brought, most):
        self.views = []
        self.starts = {}
        for place, plan in enumerate(code.plans):
            goal = code.showing(place)
            self.views.append(None if goal is None else frame_at(table, code, (place, values), goal, most))
            if place == goal:
                self.starts[place] = start_of(table, plan, values, brought)


def core_of(start, second, brought):
    """A tuple (pairs, behind) for an ask or an end of each of two codes, or None if they are of different kinds.

    pairs are the terms that must be equal for the same to be seen; behind has a tuple (places, values)
    for each outcome, in order: the two places that follow, and the values of all variables there.
    """
    if start[0] != second[0] or len(start[1]) != len(second[1]):
        return None
    behind = [((to, there), values + more + brought) for (to, values), (there, more) in zip(start[2], second[2])]
    return (list(zip(start[1], second[1])), behind)


class Beside:
    """Two codes beside one another; many is the number of all variables."""

    def __init__(self, one, other, most):
        self.many = one.variables + other.variables
        self.table = Table(list(range(self.many)) + list(BROUGHT))
        self.brought = (self.many, self.many + 1)
        heads = Heads(self.table, one, tuple(range(one.variables)), self.brought, most)
        seconds = Heads(self.table, other, tuple(range(one.variables, self.many)), self.brought, most)
        self._views = (heads.views, seconds.views)
        self.cores = {(place, there): core_of(heads.starts[place], seconds.starts[there], self.brought)
                      for place in heads.starts for there in seconds.starts}

    def view(self, place, there):
        """What is seen from two places: a tuple (places, values) of these places and the values of all variables there.

        It is None if something is seen from one place alone, and () if nothing is seen from both.
        """
        view, second = self._views[0][place], self._views[1][there]
        if view is None and second is None:
            return ()
        if view is None or second is None:
            return None
        return ((view[0], second[0]), view[1] + second[1] + self.brought)

    def start(self, place, there):
        """As a core, a tuple (pairs, behind) over the variables at two places, or None."""
        found = self.view(place, there)
        if not found:
            return None if found is None else ([], [])
        places, values = found
        core = self.cores[places]
        if core is None or places == (place, there):
            return core
        ones = self.table.moved([one for one, _ in core[0]], values)
        others = self.table.moved([other for _, other in core[0]], values)
        return (list(zip(ones, others)), [(to, tuple(self.table.moved(worths, values))) for to, worths in core[1]])

    def frames_behind(self, place, there, values, fresh):
        """What follows two places from which the same is asked, with values of all variables there.

        It is a list with a tuple (places, values) for each outcome, which brings the unknowns fresh, fresh + 1.
        """
        known = tuple(values) + (self.table.number_of((fresh,)), self.table.number_of((fresh + 1,)))
        return [(places, self.table.moved(worths[:self.many], known))
                for places, worths in self.start(place, there)[1]]
