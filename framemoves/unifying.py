"""Terms made equal, over nodes: so that terms which double when they are put in stay small.

A leaf -1 - i is a fixed thing, the unknown i of given values: it is equal to itself alone. Solved
equations are a tuple (nodes, links): links is the ascending list of the tuples (unknown, number) of
the unknowns that have a row, with the number of the node that stands for them, and no unknown that
has a row is in a node.
"""

from framemoves.nodes import filled, shared, united


def is_free(node):
    """Whether a node is an unknown for which a term may stand."""
    return not isinstance(node[0], str) and node[0] >= 0


def goes_ahead(node, other):
    """Whether a node rather than the other one stands for both, if they are equal."""
    return not is_free(node) or (is_free(other) and node[0] < other[0])


def leader(above, number):
    """The number at the top of those that stand above a number."""
    while above[number] != number:
        number = above[number]
    return number


def faces(nodes, pairs):
    """For each number that of the node which stands for all that equal it if the pairs do, or None."""
    above = list(range(len(nodes)))
    chosen = list(range(len(nodes)))
    weights = [1] * len(nodes)
    ahead = list(pairs)
    while ahead:
        one, other = ahead.pop()
        one, other = leader(above, one), leader(above, other)
        if one == other:
            continue
        node, second = nodes[chosen[one]], nodes[chosen[other]]
        if not is_free(node) and not is_free(second):
            if node[0] != second[0] or len(node) != len(second):
                return None
            ahead.extend(list(zip(node[1:], second[1:])))
        face = chosen[one] if goes_ahead(node, second) else chosen[other]
        # The lighter class goes below the heavier one, so that the ways up stay short.
        if weights[one] < weights[other]:
            one, other = other, one
        above[other] = one
        chosen[one] = face
        weights[one] = weights[one] + weights[other]
    return [chosen[leader(above, number)] for number in range(len(nodes))]


def parts_first(nodes, chosen):
    """The chosen numbers, each behind those chosen for its parts, or None if one were within itself."""
    uses = {number: 0 for number in chosen}
    for number in list(uses):
        for part in nodes[number][1:]:
            uses[chosen[part]] = uses[chosen[part]] + 1
    ready = [number for number in uses if uses[number] == 0]
    order = []
    while ready:
        number = ready.pop()
        order.append(number)
        for part in nodes[number][1:]:
            below = chosen[part]
            uses[below] = uses[below] - 1
            if uses[below] == 0:
                ready.append(below)
    if len(order) < len(uses):
        return None
    return order[::-1]


def solution(nodes, pairs):
    """The solved equations of pairs of numbers of nodes, or None if no terms satisfy them."""
    chosen = faces(nodes, pairs)
    order = None if chosen is None else parts_first(nodes, chosen)
    if order is None:
        return None
    numbers = {}
    made = {}
    for at in order:
        key = nodes[at][:1] + tuple([made[chosen[part]] for part in nodes[at][1:]])
        made[at] = numbers.setdefault(key, len(numbers))
    changed = [(at, face) for at, face in enumerate(chosen) if at != face and is_free(nodes[at])]
    return list(numbers), sorted([(nodes[at][0], made[face]) for at, face in changed])


def solved(pairs):
    """The solved equations of pairs of terms, or None."""
    nodes, tops = shared([term for pair in pairs for term in pair])
    return solution(nodes, list(zip(tops[::2], tops[1::2])))


def stated(equations):
    """Nodes and pairs of their numbers that say what solved equations say."""
    nodes, links = equations
    unknown_nodes = [(unknown,) for unknown, _ in links]
    return nodes + unknown_nodes, [(len(nodes) + at, number) for at, (_, number) in enumerate(links)]


def solved_together(one, other):
    """The solved equations that say what both say, or None."""
    nodes, pairs = stated(one)
    more, ends = stated(other)
    every, moved = united(nodes, more)
    return solution(every, pairs + [(moved[number], moved[second]) for number, second in ends])


def are_equal(one, other):
    """Whether two solved equations have equal rows."""
    _, moved = united(one[0], other[0])
    return one[1] == [(unknown, moved[number]) for unknown, number in other[1]]


def without_free(nodes):
    """For each node whether no unknown for which a term may stand is in it."""
    found = []
    for node in nodes:
        found.append(not is_free(node) and all([found[part] for part in node[1:]]))
    return found


def terms_of(nodes):
    """The list of the terms of the nodes, fixed things as the unknowns that they are."""
    leaves = [node[0] for node in nodes if not isinstance(node[0], str)]
    return filled(nodes, {leaf: leaf if leaf >= 0 else -1 - leaf for leaf in leaves})
