"""Random units, and a plain second version of how their functions run, told as the document tells it."""

from framemoves.units import Unit
from plain import NAMES, WORLDS, random_statement
from support import plain_put, random_term

NIL = ("nil",)


def random_function(rng, world, name, callees, shapes):
    """A function of a shape (variables, given, results, places) that calls some other ones."""
    variables, given, results, places = shapes[name]
    leaves = range(variables) if variables else [("c",)]
    rows = []
    for at in range(places):
        kind = rng.choice(["set", "ask", "ask", "call", "call", "back", "end"])
        fitting = [other for other in callees if shapes[other][2] <= variables]
        if kind == "call" and fitting:
            other = rng.choice(fitting)
            terms = tuple(random_term(rng, 1, leaves, NAMES) for _ in range(shapes[other][1]))
            targets = tuple(rng.sample(range(variables), shapes[other][2]))
            rows.append(("call", other, terms, targets, rng.randrange(places)))
        elif kind == "back" or at == places - 1 > 0:
            rows.append(("back", tuple(random_term(rng, 1, leaves, NAMES) for _ in range(results))))
        else:
            rows.append(random_statement(rng, world, variables, places, ["set", "ask", "ask", kind if kind == "end" else "set"], 1))
    return (variables, given, results, rows)


def random_unit(rng):
    """A unit of functions of three levels; those of a level call those of lower ones."""
    world = rng.choice(WORLDS)
    levels = [["top", "main"][:rng.randrange(1, 3)], ["mid", "act", "beta"][:rng.randrange(3)], ["low", "deep"][:rng.randrange(3)]]
    shapes = {}
    for name in sum(levels, []):
        variables = rng.randrange(2, 5)
        shapes[name] = (variables, rng.randrange(variables + 1), rng.randrange(3), rng.randrange(1, 5))
    functions = {}
    for at, names in enumerate(levels):
        for name in names:
            functions[name] = random_function(rng, world, name, sum(levels[at + 1:], []), shapes)
    names = list(functions)
    rng.shuffle(names)
    return Unit(world, {name: functions[name] for name in names})


def first_values(function, terms):
    """The values with which a function begins."""
    return tuple(terms) + (NIL,) * (function[0] - len(terms))


def statement_at(unit, frames):
    return unit.function(frames[-1][0])[3][frames[-1][1]]


def with_changes(values, changes):
    return tuple(dict(changes).get(at, value) for at, value in enumerate(values))


def led(frames, place, values):
    return frames[:-1] + [(frames[-1][0], place, values)]


def silent_step(unit, frames):
    """The frames behind a set, a call or a back to a function that called, or None if something else stands there."""
    statement, values = statement_at(unit, frames), frames[-1][2]
    if statement[0] == "set":
        return led(frames, statement[2], with_changes(values, [(at, plain_put(term, values)) for at, term in statement[1]]))
    if statement[0] == "call":
        terms = [plain_put(term, values) for term in statement[2]]
        return frames + [(statement[1], 0, first_values(unit.function(statement[1]), terms))]
    if statement[0] == "back" and len(frames) > 1:
        call = statement_at(unit, frames[:-1])
        terms = [plain_put(term, values) for term in statement[1]]
        return led(frames[:-1], call[4], with_changes(frames[-2][2], list(zip(call[3], terms))))
    return None


def to_what_is_seen(unit, frames):
    """The frames at the next ask or end, or None if they never come there."""
    met = []
    while True:
        stack = [frame[:2] for frame in frames]
        if stack in met:
            return None
        met.append(stack)
        following = silent_step(unit, frames)
        if following is None:
            return frames
        frames = following


def plain_seen(unit, name, outcomes):
    """The list of what is seen of a function in a run, and the frames behind the last outcome; None if it cannot come."""
    function = unit.function(name)
    frames = [(name, 0, first_values(function, range(function[1])))]
    fresh, shown = function[1], []
    for outcome in list(outcomes) + [None]:
        last = to_what_is_seen(unit, frames)
        if last is None:
            shown.append(("silent",))
            return (shown, frames) if outcome is None else None
        statement, values = statement_at(unit, last), last[-1][2]
        if statement[0] == "back":
            shown.append(("end", "back", tuple(plain_put(term, values) for term in statement[1])))
        else:
            shown.append(statement[:2] + (tuple(plain_put(term, values) for term in statement[2]),))
        if outcome is None:
            return shown, frames
        ways = [way for way in statement[3] if way[0] == outcome] if statement[0] == "ask" else []
        if not ways:
            return None
        frames = led(last, ways[0][2], with_changes(values, [(at, fresh + k) for k, at in enumerate(ways[0][1])]))
        fresh += len(ways[0][1])


def stacks_behind(unit, stack):
    """The stacks to which the statement of a stack leads, in order."""
    name, place = stack[-1]
    statement = unit.function(name)[3][place]
    if statement[0] == "set":
        return [stack[:-1] + ((name, statement[2]),)]
    if statement[0] == "ask":
        return [stack[:-1] + ((name, way[2]),) for way in sorted(statement[3])]
    if statement[0] == "call":
        return [stack + ((statement[1], 0),)]
    if statement[0] == "back" and len(stack) > 1:
        outer, at = stack[-2]
        return [stack[:-2] + ((outer, unit.function(outer)[3][at][4]),)]
    return []


def plain_stacks(unit, name):
    """The list of the stacks of an unfolded function, in order."""
    found = [((name, 0),)]
    for stack in found:
        found.extend(behind for at, behind in enumerate(stacks_behind(unit, stack))
                     if behind not in found and behind not in stacks_behind(unit, stack)[:at])
    return found
