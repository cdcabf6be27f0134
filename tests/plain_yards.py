"""Plain second versions of what the package works out of yards, told as the document tells it, and random yards."""

from framemoves.facts import facts
from framemoves.moves import recipe_for
from framemoves.patterns import Pattern
from framemoves.recipes import Recipe
from framemoves.runs import frame_after, is_run, onward, seen
from framemoves.histories import shown
from framemoves.solving import Equations
from framemoves.terms import built, size
from framemoves.yards import Yard
from plain import (NAMES, WORLDS, behind_set, behind_way, frames_after, plain_head, plain_history, plain_item, plain_view,
                   put_things, random_code, small, solved, standing, varied)
from support import outcome_of, plain_put, random_term

GREAT = 10 ** 9


def must_at(yard, version, place):
    """The index of the must move that stands at a place, or None."""
    found = [at for at, move in standing(yard, version, place) if move[5] == "must"]
    return found[0] if found else None


def is_silent(yard, version, place):
    """Whether sets and must moves alone lead on for ever."""
    for _ in range(200):
        at = must_at(yard, version, place)
        statement = yard.versions()[version].statement(place)
        if at is not None:
            version, place = yard.moves()[at][2:4]
        elif statement[0] == "set":
            place = statement[2]
        else:
            return False
    return True


def yard_rows(yard, there, version, place, told):
    """The rows [73] of a standing as pairs of terms, or None; told has the pairs of all standings, or None."""
    true, code = yard.true, yard.versions()[version]
    known = tuple(range(true.variables))
    own = tuple(range(true.variables, true.variables + code.variables))
    view = plain_view(true, there, known, GREAT)
    if (view is None) != is_silent(yard, version, place):
        return None
    back = []
    must = must_at(yard, version, place)
    statement = code.statement(place)
    rows = []
    for at, move in standing(yard, version, place):
        back.append(((there,) + move[2:4], known + tuple(plain_put(term, own) for term in move[4].terms)))
    if must is None and statement[0] == "set":
        back.append(((there, version, statement[2]), known + behind_set(statement, own)))
    if must is None and statement[0] != "set":
        last = true.statement(view[0])
        if statement[:2] != last[:2] or len(statement[2]) != len(last[2]):
            return None
        rows = [(plain_put(term, view[1]), plain_put(more, own)) for term, more in zip(last[2], statement[2])]
        for way, more in zip(last[3] if last[0] == "ask" else (), statement[3] if last[0] == "ask" else ()):
            values = behind_way(way, view[1], ["one", "two"]) + behind_way(more, own, ["one", "two"])
            back.append(((way[2], version, more[2]), values))
    for to, values in back:
        if told[to] is None:
            return None
        rows.extend((put_things(first, values), put_things(second, values)) for first, second in told[to])
    return rows


def all_standings(yard):
    return [(there, version, place) for there in range(len(yard.true)) for version, code in enumerate(yard.versions())
            for place in range(len(code))]


def plain_yard_rounds(yard, most=200):
    """The list of the needs behind each round: dicts from standings to rows, or None."""
    for there in range(len(yard.true)):
        plain_view(yard.true, there, tuple(range(yard.true.variables)), most)
    rounds = [{place: [] for place in all_standings(yard)}]
    while True:
        found = {place: solved(yard_rows(yard, *place, rounds[-1])) for place in all_standings(yard)}
        for rows in found.values():
            small([term for _, term in rows or []], most)
        if found == rounds[-1]:
            return rounds
        rounds.append(found)


def plain_needs(yard, there, version, place, most=200):
    """The needs of a standing, Equations or None."""
    rows = plain_yard_rounds(yard, most)[-1][there, version, place]
    return None if rows is None else Equations(yard.true.variables + yard.versions()[version].variables, rows)


def outcomes_of(history):
    return [item for item in history if isinstance(item, str) and item != ""]


def is_right_history(yard, history):
    """Whether a history is right, as [72] tells."""
    return is_run(yard.true, outcomes_of(history)) and shown(yard, history) == seen(yard.true, outcomes_of(history))


def item_key(item):
    return (isinstance(item, int), item if isinstance(item, int) else 0, item if isinstance(item, str) else "")


def items_behind(yard, history):
    """The items that can come behind a history, in order."""
    state = plain_history(yard, history)
    statement = yard.versions()[state[0]].statement(state[1])
    items = [""] + [at for at, _ in standing(yard, state[0], state[1])]
    items += [way[0] for way in statement[3]] if statement[0] == "ask" else []
    return sorted([item for item in items if plain_item(yard, state, item) is not None], key=item_key)


def standing_and_values(yard, history):
    """The standing of a history, and its values."""
    version, place, values = plain_history(yard, history)[:3]
    there, known = frame_after(yard.true, outcomes_of(history))
    return (there, version, place), known + values


def check_sizes(yard, history, most):
    """Raise TooMany(most) if the values of a history, or of a frame on the way to what is seen next, are too great."""
    (there, version, place), values = standing_and_values(yard, history)
    small(values, most)
    known, values = values[:yard.true.variables], values[yard.true.variables:]
    plain_view(yard.true, there, known, most)
    if is_silent(yard, version, place):
        return
    while True:
        at = must_at(yard, version, place)
        statement = yard.versions()[version].statement(place)
        if at is not None:
            version, place, values = yard.moves()[at][2:4] + (yard.moves()[at][4](values),)
        elif statement[0] == "set":
            place, values = statement[2], behind_set(statement, values)
        else:
            return
        small(values, most)


def plain_looks(yard, most=200):
    """("parted", history) or ("calm", kept, patterns): dicts from standings to kept histories, and to Patterns."""
    kept, patterns = {}, {}
    level = [[number] for number in yard.begins]
    while level:
        for history in level:
            check_sizes(yard, history, most)
        wrong = [history for history in level if not is_right_history(yard, history)]
        if wrong:
            return ("parted", wrong[0])
        following = []
        for history in level:
            place, values = standing_and_values(yard, history)
            if place in patterns and values in patterns[place]:
                continue
            patterns[place] = patterns[place] | Pattern(values) if place in patterns else Pattern(values)
            kept.setdefault(place, []).append(history)
            following.extend(history + [item] for item in items_behind(yard, history))
        level = following
    return ("calm", kept, patterns)


def plain_calm(yard, most=200):
    told = plain_looks(yard, most)
    if told[0] == "parted":
        return told
    return ("calm", [place + (told[2][place].terms,) for place in sorted(told[2])])


def pairs_from(yard, there, version, place, terms, fresh=900):
    """What is seen next of both, and the list of the (standing, values) behind each item that can come."""
    many = yard.true.variables
    known, values = terms[:many], terms[many:]
    heads = [plain_head(yard.true, there, known), None]
    silent, at, state = is_silent(yard, version, place), (version, place), values
    while not silent and heads[1] is None:
        must, statement = must_at(yard, *at), yard.versions()[at[0]].statement(at[1])
        if must is not None:
            at, state = yard.moves()[must][2:4], tuple(plain_put(term, state) for term in yard.moves()[must][4].terms)
        elif statement[0] == "set":
            at, state = (at[0], statement[2]), behind_set(statement, state)
        else:
            heads[1] = statement[:2] + (tuple(plain_put(term, state) for term in statement[2]),)
    behind = []
    for item in [""] + list(range(len(yard.moves()))) + [way for act in yard.true.world.acts() for way in yard.true.world.outcomes(act)]:
        after = plain_item(yard, (version, place, values, fresh, []), item)
        if after is not None and heads[0] == heads[1]:
            followed = frames_after(yard.true, there, known, fresh).get(item, (there, known))
            behind.append(((followed[0],) + after[:2], followed[1] + after[2]))
    return heads[0] == (heads[1] or ("silent",)), behind if heads[1] else silent_behind(yard, there, version, place, known, values)


def silent_behind(yard, there, version, place, known, values):
    """The list of the (standing, values) behind each item where nothing is seen any more."""
    found = [plain_item(yard, (version, place, values, 900, []), item) for item in [""] + list(range(len(yard.moves())))]
    return [((there,) + after[:2], known + after[2]) for after in found if after is not None]


def plain_are_calm_rows(yard, thing):
    """Whether a list of tuples (there, version, place, terms) of standings and tuples of terms shows that a yard is calm."""
    told = {row[:3]: row[3] for row in thing}
    if len(told) < len(thing):
        return False
    pairs = [((0, version, 0), yard.true.first()[1] + yard.versions()[version].first()[1]) for version in yard.begins]
    for standing, terms in told.items():
        if len(terms) != yard.true.variables + yard.versions()[standing[1]].variables:
            return False
        same, behind = pairs_from(yard, *standing, terms)
        if not same:
            return False
        pairs.extend(behind)
    return all(standing in told and values in Pattern(told[standing]) for standing, values in pairs)


def plain_terms_once(yard, other, there, histories):
    """The terms of the recipe of [74] for some histories to one place, or None."""
    rounds = plain_yard_rounds(yard)[-1]
    many, width = yard.true.variables, yard.versions()[other].variables
    groups = {}
    for history in histories:
        place, values = standing_and_values(yard, history)
        groups[place] = groups[place] | Pattern(values) if place in groups else Pattern(values)
    terms = []
    for variable in range(width):
        joint = None
        for place, pattern in groups.items():
            rows = rounds[place[0], other, there]
            found = None if rows is None else Equations(many + width, rows).solved_for(pattern.terms[:many])
            if found is None:
                return None
            if many + variable in dict(found):
                row = Pattern(pattern.terms[many:] + (dict(found)[many + variable],))
                joint = row if joint is None else joint | row
        term = ("nil",) if joint is None else built(joint.terms[-1], joint.terms[:-1], list(range(len(joint) - 1)))
        terms.append(term)
    return None if None in terms else terms


def random_recipe(rng, many, width, deep=1):
    """A recipe, often one that keeps variables."""
    leaves = range(many) if many else [("c",)]
    return Recipe(many, [at if at < many and rng.random() < 0.75 else random_term(rng, deep, leaves, NAMES)
                         for at in range(width)])


def rich_code(rng):
    """A random code from whose first frame several places are reached."""
    while True:
        code = random_code(rng, rng.choice(WORLDS), rng.randrange(2, 4), rng.randrange(3), rng.randrange(2, 5), rng.choice([1, 2]))
        if len([1 for item in facts(code, most=10 ** 6) if item is not None]) > 2:
            return code


def random_yard(rng, moves=4):
    """A yard of a random code and of codes much like it, with moves that often lead from a place to the same one."""
    code = rich_code(rng)
    versions = [rng.choice([code, code, varied(rng, code)]) for _ in range(rng.randrange(1, 4))]
    yard = Yard(code, versions, [], begins=[rng.randrange(len(versions)) for _ in range(rng.randrange(1, 3))])
    for _ in range(rng.randrange(moves + 1)):
        one, other = rng.randrange(len(versions)), rng.randrange(len(versions))
        place = rng.randrange(len(versions[one]))
        there = place if rng.random() < 0.8 and place < len(versions[other]) else rng.randrange(len(versions[other]))
        recipe = random_recipe(rng, versions[one].variables, versions[other].variables)
        told = recipe_for(versions[one], place, versions[other], there, most=10 ** 6)
        recipe = told[1] if told[0] == "move" and rng.random() < 0.8 else recipe
        told = outcome_of(yard.with_move, (one, place, other, there, recipe, rng.choice(["may", "may", "must"])))
        yard = told if isinstance(told, Yard) else yard
    return yard
