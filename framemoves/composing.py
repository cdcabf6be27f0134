"""What becomes of frames that are moved by one recipe or another, and there and back."""

from framemoves.checks import need_places
from framemoves.joining import hold
from framemoves.looking import looks_at
from framemoves.rounds import Rounds


def parting_road(one, place, other, there, first, second, *, most=200):
    """None if two recipes make alike frames of each reached one; otherwise a road and outcomes that show that not."""
    need_places(one, place, other, there)
    looks = looks_at(one, most)
    rounds = Rounds(other, other, most)
    table = rounds.beside.table
    for road, values in looks.kept[place]:
        found = table.taken(looks.table.told(values))
        made = table.worked(first.plan, found) + table.worked(second.plan, found)
        outcomes = rounds.least_parting((there, there), made, other)
        if outcomes is not None:
            return (road, outcomes)
    return None


def there_and_back(one, place, other, there, recipe, back, *, most=200):
    """What is made of each frame that is reached at a place: "same", "alike" or "changed"."""
    need_places(one, place, other, there)
    looks = looks_at(one, most)
    rounds = Rounds(one, one, most)
    if looks.patterns[place] is None:
        return "same"
    table = rounds.beside.table
    values = table.taken(looks.table.told(looks.patterns[place]))
    made = table.worked(back.plan, table.worked(recipe.plan, values))
    if made == values:
        return "same"
    return "alike" if hold(table, rounds.last[place, place], values + made) else "changed"
