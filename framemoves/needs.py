"""Needs: the equations that the values of two frames satisfy exactly if the frames are alike."""

from framemoves.checks import need_one_world, need_places
from framemoves.rounds import Rounds
from framemoves.solving import with_rows


def needs_at(rounds, place, there):
    """The needs of two places behind all Rounds, Equations or None."""
    rows = rounds.last[place, there]
    if rows is None:
        return None
    terms = rounds.beside.table.told([number for _, number in rows])
    return with_rows(rounds.beside.many, [(row[0], term) for row, term in zip(rows, terms)])


def needs(one, p, other, q, *, most=200):
    """The needs of two places, Equations or None."""
    need_places(one, p, other, q)
    return needs_at(Rounds(one, other, most), p, q)


def all_needs(one, other, *, most=200):
    """The list with a list for each place of one that has its needs with each place of other."""
    need_one_world(one, other)
    rounds = Rounds(one, other, most)
    return [[needs_at(rounds, place, there) for there in range(len(other))] for place in range(len(one))]


def parting_of_frames(one, frame, other, second, most):
    """The least of the shortest lists of outcomes behind which two frames show different things, or None."""
    need_places(one, frame[0], other, second[0])
    rounds = Rounds(one, other, most)
    values = rounds.beside.table.taken(frame[1] + second[1])
    return rounds.least_parting((frame[0], second[0]), values, one)


def are_alike(one, frame, other, second, *, most=200):
    """Whether two frames show the same, whatever the outcomes."""
    return parting_of_frames(one, frame, other, second, most) is None


def parting(one, frame, other, second, *, most=200):
    """The least of the shortest lists of outcomes behind which two frames show different things, or None."""
    return parting_of_frames(one, frame, other, second, most)
