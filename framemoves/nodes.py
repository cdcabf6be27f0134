"""Terms as numbered nodes: each different term once, so that equal terms have equal numbers.

A node is a tuple (unknown,) or (operation, number, ..) with the numbers of the parts. In a list of
nodes a part stands ahead of what it is a part of, and no node stands twice; its index is its number.
"""


def laid_out(terms):
    """Each term of a list and each part in it, from left to right, a part behind its operation."""
    found = []
    ahead = list(terms)[::-1]
    while ahead:
        term = ahead.pop()
        found.append(term)
        if isinstance(term, tuple):
            ahead.extend(term[:0:-1])
    return found


def shared(terms):
    """The nodes of a list of terms, and the list of the numbers of these terms."""
    numbers = {}
    waiting = []
    # From right to left the parts of an operation come ahead of it, its first part as the last one.
    for term in reversed(laid_out(terms)):
        if isinstance(term, tuple):
            parts = []
            for _ in term[1:]:
                parts.append(waiting.pop())
            key = (term[0],) + tuple(parts)
        else:
            key = (term,)
        waiting.append(numbers.setdefault(key, len(numbers)))
    return list(numbers), waiting[::-1]


def laid(terms):
    """The tuple of the nodes of terms, and the tuple of the numbers of these terms."""
    nodes, tops = shared(terms)
    return (tuple(nodes), tuple(tops))


def filled(nodes, values):
    """The list of the terms of the nodes, each unknown in them replaced by its value."""
    made = []
    for node in nodes:
        if isinstance(node[0], str):
            made.append((node[0],) + tuple([made[part] for part in node[1:]]))
        else:
            made.append(values[node[0]])
    return made


def united(nodes, others):
    """One list of nodes for both, in which the first ones keep their numbers, and the numbers there of the others."""
    numbers = {node: number for number, node in enumerate(nodes)}
    moved = []
    for node in others:
        key = node[:1] + tuple([moved[part] for part in node[1:]])
        moved.append(numbers.setdefault(key, len(numbers)))
    return list(numbers), moved


def are_same(first, second):
    """Whether what laid tells of two lists of terms is told of equal ones; there may be further nodes."""
    moved = united(first[0], second[0])[1]
    return first[1] == tuple([moved[top] for top in second[1]])


def laid_behind(first, second):
    """What laid tells of the terms of second if the terms of first are put in for their unknowns."""
    nodes, tops = first
    numbers = {node: number for number, node in enumerate(nodes)}
    moved = []
    for node in second[0]:
        if isinstance(node[0], str):
            key = node[:1] + tuple([moved[part] for part in node[1:]])
            moved.append(numbers.setdefault(key, len(numbers)))
        else:
            moved.append(tops[node[0]])
    return (tuple(numbers), tuple([moved[top] for top in second[1]]))


def fits(pairs, nodes, known):
    """Whether each term in pairs (term, number) comes to the node with its number.

    The dict known tells the numbers of what stands for some of the unknowns in the terms; for each
    other unknown one thing is to stand everywhere.
    """
    found = dict(known)
    ahead = list(pairs)
    while ahead:
        term, number = ahead.pop()
        if isinstance(term, tuple):
            node = nodes[number]
            if node[0] != term[0] or len(node) != len(term):
                return False
            ahead.extend(list(zip(term[1:], node[1:])))
        elif found.setdefault(term, number) != number:
            return False
    return True
