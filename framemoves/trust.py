"""Promises: acts that come out in one way while a promise stands, which may fall behind other acts."""

from framemoves.codes import Code
from framemoves.errors import Unfit
from framemoves.statements import leads, restated
from framemoves.worlds import World

# An act that is not promised has twice as many outcomes in the doubled world, in which it has six at most.
MOST_OUTCOMES = 3


def is_promise(world, promise):
    """Whether any value is a dict from acts of a world to outcomes of them that bring nothing."""
    if not (isinstance(promise, dict) and all([isinstance(act, str) and act in world.acts() for act in promise])):
        return False
    rows = list(promise.items())
    if not all([isinstance(outcome, str) and outcome in world.outcomes(act) for act, outcome in rows]):
        return False
    return all([world.brings(act, outcome) == 0 for act, outcome in rows])


def need_promise(world, promise):
    """Raise Unfit() if a promise is none for a world, or if the world cannot be doubled."""
    if not is_promise(world, promise):
        raise Unfit()
    for act in world.acts():
        outcomes = world.outcomes(act)
        if any([outcome.endswith("-") for outcome in outcomes]):
            raise Unfit()
        if act not in promise and len(outcomes) > MOST_OUTCOMES:
            raise Unfit()


def doubled_world(world, promise):
    """The World in which each outcome of an act that is not promised is there twice: with a - the promise falls."""
    need_promise(world, promise)
    acts = {}
    for act in world.acts():
        brought = {outcome: world.brings(act, outcome) for outcome in world.outcomes(act)}
        if act not in promise:
            by_fall = {outcome + "-": many for outcome, many in brought.items()}
            brought.update(by_fall)
        acts[act] = (world.arguments(act), brought)
    return World(acts)


def trusted(statement, promise):
    """The statement, or a set without changes in the place of an ask of a promised act."""
    if statement[0] != "ask" or statement[1] not in promise:
        return statement
    return ("set", (), [way[2] for way in statement[3] if way[0] == promise[statement[1]]][0])


def doubled_ways(statement, promise, count):
    """The statement; an ask of an act that is not promised has with each way one that leads so many places further."""
    if statement[0] != "ask" or statement[1] in promise:
        return statement
    fallen = [(way[0] + "-", way[1], count + way[2]) for way in statement[3]]
    return statement[:3] + (statement[3] + tuple(fallen),)


def doubled(code, promise):
    """The Code whose second half stands for the places behind the fall of a promise."""
    world = doubled_world(code.world, promise)
    count = len(code)
    order = list(range(code.variables))
    statements = [doubled_ways(trusted(statement, promise), promise, count) for statement in code.statements()]
    for statement in code.statements():
        fallen = restated(statement, order, [count + to for to in leads(statement)])
        statements.append(doubled_ways(fallen, promise, 0))
    return Code(world, code.variables, code.given, statements)


def trusting(code, promise):
    """The Code in which promised acts are not asked."""
    need_promise(code.world, promise)
    statements = [trusted(statement, promise) for statement in code.statements()]
    return Code(code.world, code.variables, code.given, statements)
