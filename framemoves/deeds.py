"""The deeds that a book takes: which values are deeds, and what they make of a page of the book.

A page is a tuple (yard, frame, fresh, outcomes, told): a Yard, a frame (version, place, values), the
next unknown that an outcome brings, and the outcomes and what has been shown since it began, as tuples.
"""

from framemoves.codes import Code
from framemoves.errors import BadMove, Full, NoVersion, Unfit, Unlike
from framemoves.histories import Walk
from framemoves.kinds import is_below, is_integer, is_outcome
from framemoves.recipes import Recipe
from framemoves.yards import MOST_VERSIONS, Yard


def is_told_move(thing):
    """Whether any value is a tuple of four integers from 0 on, a Recipe and a kind of moves, fitting or not."""
    if not (isinstance(thing, tuple) and len(thing) == 6):
        return False
    if not all([is_integer(number) and number >= 0 for number in thing[:4]]):
        return False
    return isinstance(thing[4], Recipe) and isinstance(thing[5], str) and thing[5] in ("may", "must")


def is_item(thing):
    """Whether any value is an item of histories: an empty string, an outcome or an integer."""
    return is_integer(thing) or (isinstance(thing, str) and (thing == "" or is_outcome(thing)))


def is_deed(thing):
    """Whether any value is a deed."""
    if not (isinstance(thing, tuple) and len(thing) == 2 and isinstance(thing[0], str)):
        return False
    kind, what = thing
    if kind == "version":
        return isinstance(what, Code)
    if kind == "move":
        return is_told_move(what)
    if kind == "go":
        return is_item(what)
    return kind in ("drop", "begin") and is_integer(what)


def yard_of(true, versions, moves):
    """The Yard in all of whose versions histories can begin."""
    return Yard(true, versions, moves, begins=list(range(len(versions))))


def begun(yard, version):
    """The page on which a yard has begun in a version."""
    code = yard.versions()[version]
    place, values = code.first()
    return (yard, (version, place, values), code.given, (), ())


def walk_from(page):
    """The Walk that goes on from the frame of a page."""
    version, place, values = page[1]
    return Walk(page[0], version, (place, values), page[2])


def with_version(yard, code):
    """The Yard with a code as the next version."""
    true = yard.true
    versions = yard.versions()
    if code.world != true.world or code.given != true.given:
        raise Unlike()
    if len(versions) == MOST_VERSIONS:
        raise Full(MOST_VERSIONS)
    return yard_of(true, versions + [code], yard.moves())


def without_move(yard, at):
    """The Yard without the move with an index."""
    moves = yard.moves()
    if not is_below(at, len(moves)):
        raise BadMove(at)
    return yard_of(yard.true, yard.versions(), moves[:at] + moves[at + 1:])


def gone_on(page, item):
    """The page behind an item that comes."""
    walk = walk_from(page)
    if not walk.goes(item):
        raise Unfit()
    come = (item,) if isinstance(item, str) and item != "" else ()
    return (page[0], walk.frame(), walk.fresh(), page[3] + come, page[4] + tuple(walk.shown()))


def behind_deed(page, deed):
    """The page behind a deed."""
    kind, what = deed
    yard = page[0]
    if kind == "version":
        return (with_version(yard, what),) + page[1:]
    if kind == "move":
        return (yard.with_move(what),) + page[1:]
    if kind == "drop":
        return (without_move(yard, what),) + page[1:]
    if kind == "go":
        return gone_on(page, what)
    if not is_below(what, len(yard.versions())):
        raise NoVersion(what)
    return begun(yard, what)
