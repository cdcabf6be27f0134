"""What is raised if codes, versions and places do not belong together."""

from framemoves.errors import NoPlace, NoVersion, Unlike
from framemoves.kinds import is_below


def need_one_world(one, other):
    """Raise Unlike() if two codes are of different worlds."""
    if one.world != other.world:
        raise Unlike()


def need_place(code, place):
    """Raise NoPlace(place) if a code has no such place."""
    if not is_below(place, len(code)):
        raise NoPlace(place)


def need_places(one, place, other, there):
    """Raise Unlike() or NoPlace(place) if two codes cannot be compared at two places."""
    need_one_world(one, other)
    need_place(one, place)
    need_place(other, there)


def need_version_place(yard, version, place):
    """Raise NoVersion(version) or NoPlace(place) if a yard has no such version, or this has no such place."""
    versions = yard.versions()
    if not is_below(version, len(versions)):
        raise NoVersion(version)
    need_place(versions[version], place)
