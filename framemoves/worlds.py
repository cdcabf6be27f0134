"""Worlds: the acts by which codes reach what is not in their frames."""

from framemoves.errors import BadAct, Wrong
from framemoves.kinds import is_below, is_name, is_outcome


def are_outcomes(thing):
    """Whether any value is a dict from one to six outcomes to integers from 0 to 2."""
    if not (isinstance(thing, dict) and 1 <= len(thing) <= 6):
        return False
    return all([is_outcome(outcome) and is_below(brought, 3) for outcome, brought in thing.items()])


def is_act(thing):
    """Whether any value is a tuple of the number of arguments and the outcomes of an act."""
    return isinstance(thing, tuple) and len(thing) == 2 and is_below(thing[0], 3) and are_outcomes(thing[1])


class World:
    """A world: acts with numbers of arguments, and outcomes with numbers of values that they bring."""

    def __init__(self, acts):
        if not (isinstance(acts, dict) and all([is_name(name) for name in acts])):
            raise Wrong(0)
        for name in sorted(acts):
            if not is_act(acts[name]):
                raise BadAct(name)
        self._arguments = {name: acts[name][0] for name in acts}
        self._brings = {name: dict(acts[name][1]) for name in acts}

    def acts(self):
        """The ascending list of the acts."""
        return sorted(self._arguments)

    def arguments(self, act):
        """The number of the arguments of an act."""
        return self._arguments[act]

    def outcomes(self, act):
        """The ascending list of the outcomes of an act."""
        return sorted(self._brings[act])

    def brings(self, act, outcome):
        """How many values an outcome of an act brings."""
        return self._brings[act][outcome]

    def __eq__(self, other):
        return isinstance(other, World) and self._arguments == other._arguments and self._brings == other._brings
