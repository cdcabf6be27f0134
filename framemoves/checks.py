"""What is raised if codes and places do not belong together."""

from framemoves.errors import NoPlace, Unlike
from framemoves.kinds import is_below


def need_one_world(one, other):
    """Raise Unlike() if two codes are of different worlds."""
    if one.world != other.world:
        raise Unlike()


def need_place(code, place):
    """Raise NoPlace(place) if a code has no such place."""
    if not is_below(place, len(code)):
        raise NoPlace(place)


def need_places(one, place, other, there):
    """Raise Unlike() or NoPlace(place) if two codes cannot be compared at two places."""
    need_one_world(one, other)
    need_place(one, place)
    need_place(other, there)
