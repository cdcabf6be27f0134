"""Looks, by which a code that relies on a promise finds out that this has fallen."""

from framemoves.calm import calm
from framemoves.choices import listed
from framemoves.errors import Unfit
from framemoves.kinds import is_below
from framemoves.standings import Standings
from framemoves.trust import doubled
from framemoves.watching import Watch
from framemoves.yards import Yard


def fallen(code, place):
    """The place behind the fall of a promise that stands for a place of a code, or None if there is none."""
    return len(code) + place if is_below(place, len(code)) else None


def look_yard(code, lean, promise, looks):
    """The Yard of a code that relies on a promise, with a must move for each look to the true code."""
    true = doubled(code, promise)
    versions = [doubled(lean, promise), true]
    moves = [(0, fallen(lean, place), 1, fallen(code, there), recipe, "must") for place, there, recipe in looks]
    return Yard(true, versions, moves)


def sets_of(many, size):
    """The ascending list of the sets of so many of many looks, as lists of indexes."""
    return sorted([row for row in [listed(many, choice) for choice in range(1 << many)] if len(row) == size])


def fewest_looks(code, lean, promise, looks, *, most=200):
    """(chosen, late): the sets of looks in time with the fewest looks, and those with fewer, with histories."""
    # All looks together are refused here, if any are.
    look_yard(code, lean, promise, looks)
    chosen = []
    late = []
    size = 0
    while size <= len(looks) and len(chosen) == 0:
        behind = []
        for indexes in sets_of(len(looks), size):
            kind, told = calm(look_yard(code, lean, promise, [looks[at] for at in indexes]), most=most)
            if kind == "calm":
                chosen.append(indexes)
            else:
                behind.append((indexes, told))
        # Sets of as many looks as those in time are not among the late ones.
        late = late if chosen else late + behind
        size += 1
    return (chosen, sorted(late, key=lambda row: row[0]))


def is_sound(yard, move, *, most=200):
    """Whether a further move, made once, is right behind all histories that end where it stands."""
    yard.with_move(move)
    watch = Watch(yard, most)
    if watch.parted is not None:
        raise Unfit()
    standings = Standings(yard, most)
    version, place, other, there, recipe, _ = move
    for standing, pattern in watch.patterns.items():
        if standing[1:] == (version, place):
            terms = watch.table.told(pattern)
            many = yard.true.variables
            if not standings.are_met((standing[0], other, there), terms[:many], terms[many:], recipe):
                return False
    return True
