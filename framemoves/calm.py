"""Whether versions that are joined by moves show what the true code shows, whatever is done."""

from framemoves.checks import need_place, need_version_place
from framemoves.codes import NIL
from framemoves.errors import Unfit
from framemoves.facts import NEW
from framemoves.kinds import are_values, is_below
from framemoves.making import needed, terms_by
from framemoves.patterns import Pattern
from framemoves.recipes import Recipe
from framemoves.standings import Standings
from framemoves.tracks import Tracks, standing_of, values_of
from framemoves.watching import Watch


def yard_needs(yard, there, version, place, *, most=200):
    """The needs of a standing, Equations over the variables of the true code and of the version, or None."""
    need_place(yard.true, there)
    need_version_place(yard, version, place)
    return Standings(yard, most).needs_at((there, version, place))


def calm(yard, *, most=200):
    """("calm", rows) if all histories of a yard are right, otherwise ("parted", history)."""
    watch = Watch(yard, most)
    if watch.parted is not None:
        return ("parted", watch.parted)
    return ("calm", [standing + (Pattern(watch.table.told(watch.patterns[standing])).terms,)
                     for standing in sorted(watch.patterns)])


def is_row(yard, item):
    """Whether any value is a tuple (there, version, place, terms) of a standing and of terms for both frames."""
    if not (isinstance(item, tuple) and len(item) == 4 and is_below(item[0], len(yard.true))):
        return False
    versions = yard.versions()
    if not (is_below(item[1], len(versions)) and is_below(item[2], len(versions[item[1]]))):
        return False
    return are_values(yard.true.variables + versions[item[1]].variables, item[3])


def are_calm_rows(yard, thing):
    """Whether any value is a list of rows which shows that all histories of a yard are right."""
    if not (isinstance(thing, list) and all([is_row(yard, item) for item in thing])):
        return False
    tracks = Tracks(yard, None)
    told = {item[:3]: tuple(tracks.table.taken(item[3])) for item in thing}
    if len(told) < len(thing):
        return False
    pairs = [tracks.first_pair(version) for version in yard.begins]
    for standing, terms in told.items():
        pair = ((standing[0], terms[:yard.true.variables]), standing[1:] + (terms[yard.true.variables:],))
        if not tracks.shows_same(pair):
            return False
        pairs.extend([behind for _, behind, _ in tracks.pairs_behind(pair, NEW)])
    rows = [(told.get(standing_of(pair)), values_of(pair)) for pair in pairs]
    return all([terms is not None and tracks.table.fit(terms, values) for terms, values in rows])


class Once:
    """A further move that is made once from a place of a version: which recipes are right for kept histories there.

    A kept history is a tuple (history, there, values), the values being numbers in a Table.
    """

    def __init__(self, table, known, many, equations):
        self._table = table
        # How many values are those of the true code, how many those of the version.
        self._known = known
        self._many = many
        self._equations = equations

    def _cases(self, some):
        """The cases that some kept histories tell, one for each place of the true code."""
        rows = {}
        for _, there, values in some:
            rows.setdefault(there, []).append(values)
        cases = []
        for there in rows:
            terms = self._table.told(self._table.least_of(rows[there]))
            cases.append((self._equations[there], terms[:self._known], terms[self._known:]))
        return cases

    def terms_for(self, some):
        """The list of the terms of the recipe that is right for one or more kept histories, or None."""
        return terms_by(self._cases(some), list(range(self._many)))

    def needed_of(self, kept):
        """Some of kept histories for which no recipe is right, such that there is one without any one of them."""
        return needed(kept, lambda some: len(some) > 0 and self.terms_for(some) is None)


def recipe_once(yard, version, place, other, there, *, most=200):
    """("move", recipe) for a right move that is made once, or ("stuck", histories) that show that there is none."""
    need_version_place(yard, version, place)
    need_version_place(yard, other, there)
    watch = Watch(yard, most)
    if watch.parted is not None:
        raise Unfit()
    standings = Standings(yard, most)
    places = list(range(len(yard.true)))
    kept = [(history, at, values) for at in places for history, values in watch.kept.get((at, version, place), [])]
    versions = yard.versions()
    many = versions[version].variables
    if len(kept) == 0:
        return ("move", Recipe(many, [NIL] * versions[other].variables))
    equations = [standings.needs_at((at, other, there)) for at in places]
    once = Once(watch.table, yard.true.variables, many, equations)
    terms = once.terms_for(kept)
    if terms is not None:
        return ("move", Recipe(many, terms))
    return ("stuck", [history for history, _, _ in once.needed_of(kept)])
