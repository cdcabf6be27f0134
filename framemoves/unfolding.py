"""Functions unfolded: codes in which all calls are open."""

from framemoves.calls import closed, opened
from framemoves.codes import NIL, Code
from framemoves.errors import TooMany, Unfit
from framemoves.statements import leads, restated

MOST_STACKS = 60


def last_statement(unit, stack):
    """The statement at the place where the last function of a stack stands."""
    name, place = stack[-1]
    return unit.function(name)[3][place]


def led_to(stack, place):
    """The stack whose last function stands at another place."""
    return stack[:-1] + ((stack[-1][0], place),)


def stacks_behind(unit, stack):
    """The list of the stacks to which the statement of a stack leads, in the order of its ways."""
    statement = last_statement(unit, stack)
    if statement[0] == "call":
        return [stack + ((statement[1], 0),)]
    if statement[0] != "back":
        return [led_to(stack, place) for place in leads(statement)]
    if len(stack) == 1:
        return []
    return [led_to(stack[:-1], last_statement(unit, stack[:-1])[4])]


def stacks_met(unit, name):
    """A dict from the stacks of the unfolded function to their places, in order."""
    found = {((name, 0),): 0}
    ahead = list(found)
    while ahead:
        following = []
        for stack in ahead:
            for behind in stacks_behind(unit, stack):
                if behind not in found:
                    found[behind] = len(found)
                    following.append(behind)
        if len(found) > MOST_STACKS:
            raise TooMany(MOST_STACKS)
        ahead = following
    return found


def widths_of(unit, stacks):
    """The list of the numbers of the variables of each depth."""
    widths = []
    for stack in stacks:
        for depth, (name, _) in enumerate(stack):
            widths = widths + [0] if depth == len(widths) else widths
            widths[depth] = max(widths[depth], unit.function(name)[0])
    return widths


class Unfolding:
    """A function unfolded: its code, and the stacks for which the places of this stand."""

    def __init__(self, unit, name):
        self._unit = unit
        self._outermost = name
        self._places = stacks_met(unit, name)
        widths = widths_of(unit, list(self._places))
        # For each depth its first variable, and behind these the number of all variables.
        self._firsts = [sum(widths[:depth]) for depth in range(len(widths) + 1)]
        given = unit.function(name)[1]
        self._code = Code(unit.world, self._firsts[-1], given, [self._statement(stack) for stack in self._places])

    def _order(self, stack, depth):
        """The variables of the function at a depth of a stack, in the code."""
        first = self._firsts[depth]
        return list(range(first, first + self._unit.function(stack[depth][0])[0]))

    def _all_at(self, depth):
        """All variables of a depth."""
        return list(range(self._firsts[depth], self._firsts[depth + 1]))

    def _statement(self, stack):
        """The statement of the code at the place that stands for a stack."""
        depth = len(stack) - 1
        order = self._order(stack, depth)
        statement = last_statement(self._unit, stack)
        tos = [self._places[behind] for behind in stacks_behind(self._unit, stack)]
        if statement[0] == "call":
            return opened(statement, order, self._all_at(depth + 1), tos[0])
        if statement[0] != "back":
            return restated(statement, order, tos)
        if depth == 0:
            return ("end", "back", statement[1])
        call = last_statement(self._unit, stack[:-1])
        return closed(call, self._order(stack, depth - 1), statement, order, self._all_at(depth), tos[0])

    @property
    def code(self):
        """The Code in which all calls are open."""
        return self._code

    @property
    def outermost(self):
        """The name of the function that is unfolded."""
        return self._outermost

    def stacks(self):
        """The list of the stacks of all places."""
        return list(self._places)

    def place_of(self, stack):
        """The place of a stack, or None."""
        return self._places.get(stack)

    def frames_of(self, frame):
        """The list of the tuples (function, place, values) of a frame of the code, the outermost first."""
        place, values = frame
        stack = list(self._places)[place]
        return [(name, at, tuple([values[variable] for variable in self._order(stack, depth)]))
                for depth, (name, at) in enumerate(stack)]

    def frame_of(self, frames):
        """The frame of the code of a list of tuples (function, place, values)."""
        stack = tuple([(name, at) for name, at, _ in frames])
        place = self.place_of(stack)
        if place is None:
            raise Unfit()
        found = [NIL] * self._code.variables
        for depth, (_, _, values) in enumerate(frames):
            order = self._order(stack, depth)
            if len(values) != len(order):
                raise Unfit()
            for variable, value in zip(order, values):
                found[variable] = value
        return (place, tuple(found))

    def __eq__(self, other):
        if not isinstance(other, Unfolding):
            return False
        return self._outermost == other._outermost and self._unit == other._unit


def unfolded(unit, name):
    """The Unfolding of a function."""
    return Unfolding(unit, name)
