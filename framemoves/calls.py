"""Calls and backs as sets, where a called function stands beside the one that calls it.

For each function order has its variables among all variables; own are the variables that are only of
the called one, at first those of order.
"""

from framemoves.codes import NIL
from framemoves.terms import put_all


def opened(call, order, own, to):
    """The set in the place of a call, order being that of the function that calls."""
    terms = put_all(call[2], order)
    return ("set", tuple(list(zip(own, terms + [NIL] * (len(own) - len(terms))))), to)


def closed(call, order, back, called, own, to):
    """The set in the place of a back, order being that of the function that calls, called that of the called one."""
    targets = [order[variable] for variable in call[3]]
    changes = list(zip(targets, put_all(back[1], called))) + [(variable, NIL) for variable in own]
    return ("set", tuple(changes), to)
