"""Codes: variables, and places with one statement each."""

from framemoves.errors import BadPlace, NoPlace, Wrong
from framemoves.kinds import is_below
from framemoves.statements import in_order, is_statement, plan_of
from framemoves.worlds import World

MOST_VARIABLES = 24
NIL = ("nil",)


class Code:
    """A code of a world."""

    def __init__(self, world, variables, given, statements):
        if not isinstance(world, World):
            raise Wrong(0)
        if not is_below(variables, MOST_VARIABLES + 1):
            raise Wrong(1)
        if not is_below(given, variables + 1):
            raise Wrong(2)
        if not (isinstance(statements, (list, tuple)) and len(statements) > 0):
            raise Wrong(3)
        for at, item in enumerate(statements):
            if not is_statement(world, variables, len(statements), item):
                raise BadPlace(at)
        self._world = world
        self._variables = variables
        self._given = given
        self._statements = [in_order(statement) for statement in statements]
        self._plans = tuple([plan_of(statement) for statement in self._statements])

    @property
    def world(self):
        """The World of the code."""
        return self._world

    @property
    def variables(self):
        """The number of the variables."""
        return self._variables

    @property
    def given(self):
        """The number of the given variables, which are the first ones."""
        return self._given

    @property
    def plans(self):
        """The tuple of the plans of the statements of all places."""
        return self._plans

    def statement(self, place):
        """The statement of a place."""
        if not is_below(place, len(self._statements)):
            raise NoPlace(place)
        return self._statements[place]

    def statements(self):
        """The list of the statements of all places."""
        return list(self._statements)

    def first(self):
        """The first frame."""
        return (0, tuple(list(range(self._given)) + [NIL] * (self._variables - self._given)))

    def showing(self, place):
        """The place of the first statement that is no set, from a place on, or None if there is none."""
        statement = self.statement(place)
        # Sets that go on longer than there are places have come round.
        for _ in self._statements:
            if statement[0] != "set":
                return place
            place = statement[2]
            statement = self._statements[place]
        return None

    def __eq__(self, other):
        if not isinstance(other, Code):
            return False
        if self._variables != other._variables or self._given != other._given:
            return False
        return self._world == other._world and self._statements == other._statements

    def __len__(self):
        return len(self._statements)
