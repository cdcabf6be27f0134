"""Terms: putting values in, counting, numbering, and building from kept values."""

from framemoves.nodes import filled, laid_out, shared


def put_all(terms, values):
    """The list of the terms with the values put in; values is a list, a tuple or a dict."""
    nodes, tops = shared(terms)
    made = filled(nodes, values)
    return [made[top] for top in tops]


def put(term, values):
    """The term in which each unknown i is replaced by values[i]."""
    return put_all([term], values)[0]


def size(terms):
    """How many operations are in a list of terms, all together."""
    return len([term for term in laid_out(terms) if isinstance(term, tuple)])


def exceeds(terms, most):
    """Whether there are more than most operations in a list of terms."""
    # It stops at the first one too many: terms with equal parts may be far greater than they are costly.
    count = 0
    ahead = list(terms)
    while ahead and count <= most:
        term = ahead.pop()
        if isinstance(term, tuple):
            count += 1
            ahead.extend(term[1:])
    return count > most


def unknowns(terms):
    """The ascending list of the different unknowns in a list of terms."""
    return sorted({term for term in laid_out(terms) if not isinstance(term, tuple)})


def numbered(terms):
    """The list of the terms with unknowns that are numbered as they come, from left to right."""
    order = {}
    for term in laid_out(terms):
        if not isinstance(term, tuple):
            order.setdefault(term, len(order))
    return put_all(terms, order)


def built(term, values, keep):
    """A term over the indexes in keep that is the term if the values are put in, or None."""
    nodes, tops = shared([term] + [values[at] for at in keep])
    kept = {}
    for at, top in zip(keep, tops[1:]):
        kept.setdefault(top, at)
    made = []
    for number, node in enumerate(nodes):
        parts = [made[part] for part in node[1:]]
        if number in kept:
            made.append(kept[number])
        elif isinstance(node[0], str) and all([part is not None for part in parts]):
            made.append((node[0],) + tuple(parts))
        else:
            made.append(None)
    return made[tops[0]]
