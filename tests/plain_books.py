"""A plain second version of a book, which does all deeds anew each time, and random deeds."""

from framemoves.codes import Code
from framemoves.errors import BadMove, Full, NoDeed, NoVersion, Unfit, Unlike
from framemoves.kinds import is_integer, is_outcome
from framemoves.recipes import Recipe
from framemoves.runs import is_run, seen
from framemoves.yards import Yard
from plain import plain_item, small, standing, varied
from plain_yards import random_recipe
from support import plain_put


def is_deed(deed):
    """Whether a tuple of two items, the first one a string, is a deed."""
    kind, what = deed
    if kind == "move":
        return (isinstance(what, tuple) and len(what) == 6 and all(is_integer(number) and number >= 0 for number in what[:4])
                and isinstance(what[4], Recipe) and what[5] in ("may", "must"))
    return {"version": isinstance(what, Code), "drop": is_integer(what), "begin": is_integer(what),
            "go": is_integer(what) or what == "" or is_outcome(what)}.get(kind, False)


def seen_next(yard, state):
    """What is seen next of a state (version, place, values, fresh, told) by sets and must moves alone."""
    items, where, met = [], state[:2], []
    while True:
        must = [at for at, move in standing(yard, *where) if move[5] == "must"]
        statement = yard.versions()[where[0]].statement(where[1])
        if where in met:
            return ("silent",)
        met.append(where)
        if not must and statement[0] != "set":
            break
        items.append(must[0] if must else "")
        where = yard.moves()[must[0]][2:4] if must else (where[0], statement[2])
    for item in items:
        state = plain_item(yard, state, item)
        small(state[2], 200)
    statement = yard.versions()[state[0]].statement(state[1])
    return statement[:2] + (tuple(plain_put(term, state[2]) for term in statement[2]),)


class PlainBook:
    def __init__(self, true):
        self.true = true
        self.log = []
        self.undone = []

    def state(self, log):
        """The (yard, state, outcomes) behind deeds, or what is raised."""
        versions, moves = [self.true], []
        state, outcomes = (0, 0, self.true.first()[1], self.true.given, []), []
        for kind, what in log:
            yard = Yard(self.true, versions, moves)
            if kind == "version":
                if what.world != self.true.world or what.given != self.true.given:
                    raise Unlike()
                if len(versions) == 3:
                    raise Full(3)
                versions = versions + [what]
            elif kind == "move":
                yard.with_move(what)
                moves = moves + [what]
            elif kind == "drop":
                if not 0 <= what < len(moves):
                    raise BadMove(what)
                moves = [move for at, move in enumerate(moves) if at != what]
            elif kind == "begin":
                if not 0 <= what < len(versions):
                    raise NoVersion(what)
                state, outcomes = (what, 0, versions[what].first()[1], self.true.given, []), []
            else:
                state = plain_item(yard, state, what)
                if state is None:
                    raise Unfit()
                small(state[2], 200)
                outcomes = outcomes + [what] if isinstance(what, str) and what else outcomes
        yard = Yard(self.true, versions, moves, begins=list(range(len(versions))))
        return yard, state, outcomes

    def do(self, deed):
        if not is_deed(deed):
            raise NoDeed()
        if len(self.log) == 200:
            raise Full(200)
        yard, state, _ = self.state(self.log + [deed])
        told = seen_next(yard, state)
        self.log = self.log + [deed]
        self.undone = []
        return told

    def all_told(self):
        """What a book of this log tells: yard, frame, outcomes, shown, is_right, log."""
        yard, state, outcomes = self.state(self.log)
        shown = state[4] + [seen_next(yard, state)]
        right = is_run(self.true, outcomes) and shown == seen(self.true, outcomes)
        return [yard, state[:3], outcomes, shown, right, self.log]


def told_of(book):
    """What a Book tells, in the same order."""
    return [book.yard(), book.frame(), book.outcomes(), book.shown(), book.is_right(), book.log()]


def random_deed(rng, book):
    """A deed that often fits what a PlainBook keeps."""
    yard, state, _ = book.state(book.log)
    versions = yard.versions()
    kind = rng.choice(["go", "go", "go", "go", "go", "move", "move", "version", "drop", "begin"])
    if kind == "version":
        return (kind, varied(rng, book.true))
    if kind == "move":
        one, other = [rng.randrange(len(versions)) for _ in range(2)]
        place = state[1] if one == state[0] and rng.random() < 0.6 else rng.randrange(len(versions[one]))
        there = min(place, len(versions[other]) - 1) if rng.random() < 0.6 else rng.randrange(len(versions[other]) + 1)
        return (kind, (one, place, other, there, random_recipe(rng, versions[one].variables, versions[other].variables),
                       rng.choice(["may", "must"])))
    if kind == "go":
        statement = versions[state[0]].statement(state[1])
        items = [""] + [at for at, _ in standing(yard, *state[:2])] + [rng.randrange(-1, 3)]
        items += [way[0] for way in statement[3]] * 2 if statement[0] == "ask" else []
        return (kind, rng.choice(items))
    return (kind, rng.randrange(-1, 4) if rng.random() < 0.3 else rng.randrange(3))
