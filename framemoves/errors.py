"""The errors of the package. Each keeps the arguments that it is made of, the objects themselves."""


class MoveError(ValueError):
    """Any error of this package."""


class Wrong(MoveError):
    """The argument at this place is not as described."""

    def __init__(self, place):
        self.place = place


class BadAct(MoveError):
    """What a world is told of the act with this name describes no act."""

    def __init__(self, name):
        self.name = name


class BadPlace(MoveError):
    """What a code is told of this place is no statement."""

    def __init__(self, at):
        self.at = at


class BadMove(MoveError):
    """The item at this index is no move, or cannot be one beside the others."""

    def __init__(self, at):
        self.at = at


class BadFunction(MoveError):
    """What a unit is told of the function with this name describes no function of it."""

    def __init__(self, name):
        self.name = name


class Unlike(MoveError):
    """Two things do not belong together."""

    def __init__(self):
        pass


class TooMany(MoveError):
    """There are more than this limit."""

    def __init__(self, limit):
        self.limit = limit


class NoPlace(MoveError):
    """There is no such place."""

    def __init__(self, place):
        self.place = place


class NoVersion(MoveError):
    """There is no version with this number."""

    def __init__(self, number):
        self.number = number


class NoFunction(MoveError):
    """There is no function with this name."""

    def __init__(self, name):
        self.name = name


class NoSolution(MoveError):
    """No terms satisfy the equations."""

    def __init__(self):
        pass


class Unfit(MoveError):
    """What is asked for does not fit."""

    def __init__(self):
        pass


class Broken(MoveError):
    """The item at this index cannot come there."""

    def __init__(self, at):
        self.at = at


class Full(MoveError):
    """There are as many as this limit already."""

    def __init__(self, limit):
        self.limit = limit


class NoDeed(MoveError):
    """It is no deed."""

    def __init__(self):
        pass


class Nothing(MoveError):
    """There is nothing to undo or to do again."""

    def __init__(self):
        pass


class NoEntry(MoveError):
    """The log has not so many deeds."""

    def __init__(self, many):
        self.many = many


class NoText(MoveError):
    """It is the text of nothing."""

    def __init__(self):
        pass
