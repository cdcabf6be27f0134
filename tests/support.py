"""What several tests use: values of every kind, and plain second versions of what the package works out."""

import copy
import random


class Strange:
    """A value of a class that the package does not know."""


class Pleasing:
    """A value that is equal to whatever it is compared with."""

    def __eq__(self, other):
        return True

    def __hash__(self):
        return 0


def any_values():
    """Values that are no term, no list and no tuple of terms, and no object of the package."""
    return [None, True, False, -1, "", "f", "-", b"f", 3 + 4j, {}, {0: 1}, {"f": 0}, {1, 2}, frozenset([1]), range(2),
            [None], [[0]], [("f",), "f"], ["f", 0], (None,), (True,), (-1,), ("f", True), ("f", -1), ("f", [0]),
            ("f", "g"), ("f", 0, 1, 2, 3), ("F",), ("",), ("ninechars",), ("f1",), ((("f",),),), (b"f",),
            Strange(), Strange, Pleasing(), (Pleasing(),), [Pleasing()], {Pleasing(): 0}, len, ValueError()]


def nested(deep, leaf=0, name="f"):
    """A term so many operations deep."""
    term = leaf
    for _ in range(deep):
        term = (name, term)
    return term


def in_lists(deep, leaf=0):
    """A value so many lists deep."""
    for _ in range(deep):
        leaf = [leaf]
    return leaf


def full(deep, leaf=0):
    """A term with two parts at each operation, so many operations deep."""
    if deep == 0:
        return leaf
    return ("f", full(deep - 1, leaf), full(deep - 1, leaf))


def random_term(rng, deep, leaves, names=(("c", 0), ("d", 0), ("f", 1), ("g", 2), ("h", 3))):
    """A term at most so deep over the leaves."""
    if deep == 0 or rng.random() < 0.35:
        return rng.choice(leaves)
    name, parts = rng.choice(names)
    return (name,) + tuple(random_term(rng, deep - 1, leaves, names) for _ in range(parts))


def unchanged(case, call, *things, **more):
    """What a call returns or raises, twice the same, its arguments being as they were behind it."""
    before = copy.deepcopy((things, more))
    told = outcome_of(call, *things, **more)
    case.assertEqual((things, more), before)
    case.assertEqual(outcome_of(call, *things, **more), told)
    return told


def outcome_of(call, *things, **more):
    """What a call returns, or the class and the fields of the error that it raises."""
    try:
        return call(*things, **more)
    except ValueError as error:
        return type(error), vars(error)


def plain_put(term, values):
    """The term with values put in, told a second time; values is anything with indexes."""
    if isinstance(term, tuple):
        return term[:1] + tuple(plain_put(part, values) for part in term[1:])
    return values[term]


def plain_unknowns(term):
    """The set of the unknowns in a term."""
    if isinstance(term, tuple):
        return set().union(*[plain_unknowns(part) for part in term[1:]])
    return {term}


def plain_solve(pairs):
    """The most general solution of pairs of terms as a dict, found by the textbook's way, or None.

    Leaves that are strings are fixed things.
    """
    found = {}
    ahead = list(pairs)
    while ahead:
        one, other = ahead.pop()
        if one == other:
            continue
        if isinstance(one, tuple) and isinstance(other, tuple):
            if one[0] != other[0] or len(one) != len(other):
                return None
            ahead.extend(zip(one[1:], other[1:]))
            continue
        if not isinstance(one, int) or (isinstance(other, int) and one < other):
            one, other = other, one
        if not isinstance(one, int) or one in plain_unknowns(other):
            return None
        step = {one: other}
        found = {key: with_step(term, step) for key, term in found.items()}
        found[one] = other
        ahead = [(with_step(first, step), with_step(second, step)) for first, second in ahead]
    return found


def with_step(term, step):
    """The term with some of its unknowns replaced."""
    if isinstance(term, tuple):
        return term[:1] + tuple(with_step(part, step) for part in term[1:])
    return step.get(term, term)


def seeded(number):
    """A source of random numbers that gives the same ones each time."""
    return random.Random(number)
