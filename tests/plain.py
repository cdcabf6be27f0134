"""Plain second versions of what the package works out, told as the document tells it, and random codes for them."""

import itertools

from framemoves.codes import Code
from framemoves.errors import Broken, TooMany
from framemoves.patterns import Pattern
from framemoves.terms import built, size
from framemoves.worlds import World
from support import plain_put, plain_solve, random_term

NAMES = (("c", 0), ("nil", 0), ("f", 1), ("g", 2))
WORLDS = [World({"ask": (1, {"no": 0, "yes": 1})}),
          World({"get": (0, {"one": 1, "two": 2}), "put": (2, {"done": 0})}),
          World({"go": (0, {"a": 0, "b": 0, "c": 0})})]


def small(values, most):
    """The values, unless they have more than most operations."""
    if size(list(values)) > most:
        raise TooMany(most)
    return values


def changed(values, changes):
    """The values with those of some variables replaced."""
    found = list(values)
    for variable, worth in changes:
        found[variable] = worth
    return tuple(found)


def behind_set(statement, values):
    return changed(values, [(variable, plain_put(term, values)) for variable, term in statement[1]])


def behind_way(way, values, brought):
    return changed(values, list(zip(way[1], brought)))


def road_values(code, road, most=200):
    """The frame to which a road that is there leads, one step after another."""
    place, values = code.first()
    small(values, most)
    fresh = code.given
    ahead = list(road[0])
    steps = road[1]
    while ahead or steps:
        statement = code.statement(place)
        if statement[0] == "set":
            steps -= 0 if ahead else 1
            place, values = statement[2], small(behind_set(statement, values), most)
        else:
            way = [way for way in statement[3] if way[0] == ahead[0]][0]
            ahead.pop(0)
            place, values = way[2], behind_way(way, values, [fresh, fresh + 1])
            fresh += len(way[1])
    return place, values


def plain_facts(code, most=200):
    """For each place the list of kept roads and the Pattern or None, roads being taken in their order from a list."""
    kept = [[] for _ in range(len(code))]
    patterns = [None] * len(code)
    ahead = [((), 0)]
    while ahead:
        road = min(ahead, key=lambda road: (len(road[0]), road))
        ahead.remove(road)
        place, values = road_values(code, road, most)
        if patterns[place] is not None and values in patterns[place]:
            continue
        kept[place].append(road)
        patterns[place] = Pattern(values) if patterns[place] is None else patterns[place] | Pattern(values)
        statement = code.statement(place)
        if statement[0] == "set":
            ahead.append((road[0], road[1] + 1))
        elif statement[0] == "ask":
            ahead.extend((road[0] + (way[0],), 0) for way in statement[3])
    return kept, patterns


def plain_view(code, place, values, most):
    """The frame at what is seen next, or None."""
    goal = code.showing(place)
    while goal is not None and place != goal:
        statement = code.statement(place)
        place, values = statement[2], small(behind_set(statement, values), most)
    return None if goal is None else (place, values)


def with_things(term):
    """Whether a thing that an outcome brings is in a term."""
    return any(with_things(part) for part in term[1:]) if isinstance(term, tuple) else isinstance(term, str)


def rows_between(one, p, other, q, told, most=200):
    """The rows [50] of two places as pairs of terms, or None; told has the pairs, or None, for places that follow."""
    many = one.variables
    view = plain_view(one, p, tuple(range(many)), most)
    second = plain_view(other, q, tuple(range(many, many + other.variables)), most)
    if view is None or second is None:
        return [] if view is None and second is None else None
    statement, last = one.statement(view[0]), other.statement(second[0])
    if statement[:2] != last[:2] or len(statement[2]) != len(last[2]):
        return None
    rows = [(plain_put(term, view[1]), plain_put(more, second[1])) for term, more in zip(statement[2], last[2])]
    for way, more in zip(statement[3] if statement[0] == "ask" else (), last[3] if last[0] == "ask" else ()):
        pairs = told[way[2], more[2]]
        if pairs is None:
            return None
        values = behind_way(way, view[1], ["one", "two"]) + behind_way(more, second[1], ["one", "two"])
        rows.extend((put_things(first, values), put_things(term, values)) for first, term in pairs)
    return rows


def put_things(term, values):
    """As plain_put; things stay."""
    if isinstance(term, tuple):
        return term[:1] + tuple(put_things(part, values) for part in term[1:])
    return values[term]


def solved(rows):
    """The rows solved, as an ascending list, or None."""
    found = None if rows is None else plain_solve(rows)
    if found is None or any(with_things(term) for term in found.values()):
        return None
    return sorted(found.items(), key=lambda row: row[0])


def plain_rounds(one, other, most=200):
    """The list of the needs behind each round: dicts from pairs of places to rows, or None."""
    for code in (one, other):
        for place in range(len(code)):
            plain_view(code, place, tuple(range(code.variables)), most)
    pairs = list(itertools.product(range(len(one)), range(len(other))))
    rounds = [{pair: [] for pair in pairs}]
    while True:
        found = {(p, q): solved(rows_between(one, p, other, q, rounds[-1], most)) for p, q in pairs}
        for rows in found.values():
            small([term for _, term in rows or []], most)
        if found == rounds[-1]:
            return rounds
        rounds.append(found)


def plain_head(code, place, values):
    """What is seen next of a frame."""
    view = plain_view(code, place, values, 10 ** 9)
    if view is None:
        return ("silent",)
    statement = code.statement(view[0])
    return statement[:2] + (tuple(plain_put(term, view[1]) for term in statement[2]),)


def frames_after(code, place, values, fresh):
    """For each outcome of the act that is asked next the frame behind it."""
    view = plain_view(code, place, values, 10 ** 9)
    statement = ("end",) if view is None else code.statement(view[0])
    ways = statement[3] if statement[0] == "ask" else ()
    return {way[0]: (way[2], behind_way(way, view[1], [fresh, fresh + 1])) for way in ways}


def plain_parting(one, frame, other, second, deep):
    """The least of the shortest lists of at most so many outcomes by which frames part, or None."""
    level = [([], frame, second)]
    for at in range(deep + 1):
        following = []
        for outcomes, first, last in level:
            if plain_head(one, *first) != plain_head(other, *last):
                return outcomes
            ones, others = frames_after(one, *first, 10 ** 6 + 2 * at), frames_after(other, *last, 10 ** 6 + 2 * at)
            following.extend((outcomes + [outcome], ones[outcome], others[outcome]) for outcome in sorted(ones))
        level = following
    return None


def random_statement(rng, world, variables, places, kinds, deep=2):
    """A statement of a code."""
    leaves = range(variables) if variables else [("c",)]
    kind = rng.choice(kinds)
    if kind == "set":
        chosen = rng.sample(range(variables), rng.randrange(min(variables, 3) + 1))
        return ("set", tuple((at, random_term(rng, deep, leaves, NAMES)) for at in chosen), rng.randrange(places))
    if kind == "end":
        terms = tuple(random_term(rng, deep, leaves, NAMES) for _ in range(rng.randrange(3)))
        return ("end", rng.choice(["out", "bye"]), terms)
    act = rng.choice(world.acts())
    terms = tuple(random_term(rng, 1, leaves, NAMES) for _ in range(world.arguments(act)))
    ways = [(outcome, tuple(rng.sample(range(variables), world.brings(act, outcome))), rng.randrange(places))
            for outcome in world.outcomes(act)]
    return ("ask", act, terms, tuple(ways))


def random_code(rng, world, variables, given, places, deep=2):
    """A code with so many variables, enough for what outcomes bring."""
    kinds = ["set", "set", "ask", "ask", "ask", "end"]
    return Code(world, variables, given,
                [random_statement(rng, world, variables, places, kinds, deep) for _ in range(places)])


def varied(rng, code):
    """A code much like another one: variables in another order, a statement in another place, a term changed."""
    many = code.variables
    order = list(range(code.given)) + rng.sample(range(code.given, many), many - code.given)
    rows = [renamed(statement, order) for statement in code.statements()]
    for _ in range(rng.randrange(3)):
        at = rng.randrange(len(rows))
        how = rng.randrange(3)
        if how == 0:
            rows.append(rows[at])
            rows[at] = ("set", (), len(rows) - 1)
        elif how == 1 and many:
            rows.append(rows[at])
            change = (rng.randrange(many), random_term(rng, 1, range(many), NAMES))
            rows[at] = ("set", (change,), len(rows) - 1)
        elif how == 2:
            rows.append(rng.choice(rows))
    return Code(code.world, many, code.given, rows)


def renamed(statement, order):
    """A statement with other numbers for its variables."""
    if statement[0] == "set":
        return ("set", tuple((order[at], plain_put(term, order)) for at, term in statement[1]), statement[2])
    terms = tuple(plain_put(term, order) for term in statement[2])
    if statement[0] == "end":
        return ("end", statement[1], terms)
    return ("ask", statement[1], terms, tuple((way[0], tuple(order[at] for at in way[1]), way[2]) for way in statement[3]))


def standing(yard, version, place):
    """The list of the tuples (index, move) of the moves that stand at a place of a version."""
    return [(at, move) for at, move in enumerate(yard.moves()) if move[:2] == (version, place)]


def plain_item(yard, state, item):
    """The state (version, place, values, fresh, shown) behind an item of a history, or None if it cannot come."""
    version, place, values, fresh, told = state
    statement = yard.versions()[version].statement(place)
    here = standing(yard, version, place)
    if isinstance(item, int):
        found = [move for at, move in here if at == item]
        return (found[0][2], found[0][3], found[0][4](values), fresh, told) if found else None
    if any(move[5] == "must" for _, move in here):
        return None
    if item == "":
        if statement[0] != "set":
            return None
        return (version, statement[2], behind_set(statement, values), fresh, told)
    ways = [way for way in statement[3] if way[0] == item] if statement[0] == "ask" else []
    if not ways:
        return None
    told = told + [statement[:2] + (tuple(plain_put(term, values) for term in statement[2]),)]
    return (version, ways[0][2], behind_way(ways[0], values, [fresh, fresh + 1]), fresh + len(ways[0][1]), told)


def plain_history(yard, history):
    """The state behind a history; raises as frame_of."""
    if not history or history[0] not in yard.begins:
        raise Broken(0)
    code = yard.versions()[history[0]]
    state = (history[0], 0, code.first()[1], code.given, [])
    for at in range(1, len(history)):
        state = plain_item(yard, state, history[at])
        if state is None:
            raise Broken(at)
        small(state[2], 200)
    return state


def plain_shown(yard, history):
    """What is shown in a history and next behind it; raises as shown."""
    start = state = plain_history(yard, history)
    ways = []
    for _ in range(100):
        must = [at for at, move in standing(yard, state[0], state[1]) if move[5] == "must"]
        statement = yard.versions()[state[0]].statement(state[1])
        if not must and statement[0] != "set":
            break
        # The values do not matter here, so that great ones are cut off.
        ways.append(must[0] if must else "")
        state = plain_item(yard, state[:2] + ((0,) * len(yard.versions()[state[0]].first()[1]),) + state[3:], ways[-1])
    else:
        return start[4] + [("silent",)]
    for item in ways:
        start = plain_item(yard, start, item)
        small(start[2], 200)
    statement = yard.versions()[start[0]].statement(start[1])
    return start[4] + [statement[:2] + (tuple(plain_put(term, start[2]) for term in statement[2]),)]


def histories_of(yard, length):
    """All histories with at most so many items, by the number of their items."""
    found = [[number] for number in yard.begins]
    level = [([number], plain_history(yard, [number])) for number in yard.begins]
    for _ in range(length - 1):
        following = []
        for history, state in level:
            statement = yard.versions()[state[0]].statement(state[1])
            items = [""] + [at for at, _ in standing(yard, state[0], state[1])]
            items += [way[0] for way in statement[3]] if statement[0] == "ask" else []
            for item in items:
                after = plain_item(yard, state, item)
                if after is not None:
                    following.append((history + [item], after))
        found.extend(history for history, _ in following)
        level = following
    return found


def follows_of(one, other):
    """The ascending list of the pairs of places (0, 0) and those that follow equal acts, as [52] tells."""
    found, ahead = [], [(0, 0)]
    while ahead:
        pair = ahead.pop()
        places = [code.showing(place) for code, place in zip((one, other), pair)]
        if pair in found or None in places:
            found.extend([] if pair in found else [pair])
            continue
        found.append(pair)
        first, second = one.statement(places[0]), other.statement(places[1])
        if first[0] == second[0] == "ask" and first[1] == second[1]:
            ahead.extend((way[2], more[2]) for way, more in zip(first[3], second[3]))
    return sorted(found)


def in_full(term, rows):
    """The term in which unknowns of rows are replaced as long as there are any."""
    if isinstance(term, tuple):
        return term[:1] + tuple(in_full(part, rows) for part in term[1:])
    return in_full(rows[term], rows) if term in rows else term


def plain_are_rows(one, other, thing):
    """Whether a list of tuples (place, place, pairs), which are as described, shows that first frames are alike."""
    told = {(place, there): pairs for place, there, pairs in thing}
    values = one.first()[1] + other.first()[1]
    if len(told) < len(thing) or any(plain_solve(pairs) is None for pairs in told.values()):
        return False
    if any(plain_put(term, values) != plain_put(more, values) for term, more in told.get((0, 0), [(0, ("f", 0))])):
        return False
    for (place, there), pairs in told.items():
        try:
            rows = rows_between(one, place, other, there, told)
        except KeyError:
            return False
        known = plain_solve(pairs)
        if rows is None or any(in_full(term, known) != in_full(more, known) for term, more in rows):
            return False
    return True


def other_rows(rng, rows, one, other):
    """Rows with something changed: in another order, a pair out, a pair more, another pair, a tuple out, one more."""
    rows = [(place, there, list(pairs)) for place, there, pairs in rows]
    leaves = range(one.variables + other.variables)
    how = rng.randrange(6)
    pairs = rng.choice(rows)[2] if rows else []
    if how == 0:
        rng.shuffle(rows)
    elif how == 1 and pairs:
        pairs.pop(rng.randrange(len(pairs)))
    elif how == 2:
        pairs.append((random_term(rng, 1, leaves, NAMES), random_term(rng, 1, leaves, NAMES)))
    elif how == 3 and pairs:
        pairs.append((random_term(rng, 1, leaves, NAMES), pairs.pop(rng.randrange(len(pairs)))[1]))
    elif how == 4 and rows:
        rows.pop(rng.randrange(len(rows)))
    elif how == 5:
        rows.append((rng.randrange(len(one)), rng.randrange(len(other)), []))
    return rows


def satisfies(rows, values):
    """Whether values satisfy solved rows, or None."""
    return rows is not None and all(values[unknown] == plain_put(term, values) for unknown, term in rows)


def least_pattern(rows):
    """The least pattern of lists of values, or None of none."""
    found = None
    for values in rows:
        found = Pattern(values) if found is None else found | Pattern(values)
    return found


def plain_terms(equations, values, keep):
    """The terms of the recipe of [62] for values, or None; equations may be None."""
    found = None if equations is None else equations.solved_for(values)
    if found is None:
        return None
    told = dict(found)
    terms = [built(told[at], values, keep) if at in told else ("nil",) for at in range(len(values), equations.width)]
    return None if None in terms else terms
