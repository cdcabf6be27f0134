"""Keeps: which variables must be kept for told moves, and the cheapest ones."""

from framemoves.checks import need_places
from framemoves.choices import all_choices, choice_of, choices_for, choices_that_build, has, least_choices, listed
from framemoves.kinds import is_integer
from framemoves.looking import looks_at
from framemoves.making import determined
from framemoves.needs import needs_at
from framemoves.rounds import Rounds


def rounds_of_codes(one, others, most):
    """A list of tuples (code, Rounds) for the different ones of other codes."""
    known = []
    for other in others:
        if not any([other == code for code, _ in known]):
            known.append((other, Rounds(one, other, most)))
    return known


def enough_for(looks, place, equations):
    """The choices that are enough for a move from a place, the equations being the needs of its two places."""
    terms = looks.table.told(looks.patterns[place])
    worths = determined(equations, terms)
    return 0 if worths is None else choices_that_build([worth for worth in worths if worth is not None], terms)


def enough_choices(one, pairs, most):
    """The choices of variables that are enough for all pairs."""
    for p, other, q in pairs:
        need_places(one, p, other, q)
    found = all_choices(one.variables)
    if len(pairs) == 0:
        return found
    looks = looks_at(one, most)
    for code, rounds in rounds_of_codes(one, [pair[1] for pair in pairs], most):
        for p, other, q in pairs:
            if other == code and looks.patterns[p] is not None:
                found = found & enough_for(looks, p, needs_at(rounds, p, q))
    return found


def bars_against(many, enough):
    """The choices of so many variables without which the others are not enough."""
    full = (1 << many) - 1
    return choices_for(many, [not has(enough, full - choice) for choice in range(1 << many)])


def price_of(prices, choice):
    """The sum of the prices of the variables of a choice."""
    return sum([prices[variable] for variable in listed(len(prices), choice)])


def are_enough(one, pairs, keep, *, most=200):
    """Whether there is a right recipe by the keep for each pair."""
    variables = list(range(one.variables)) if keep is None else keep
    return has(enough_choices(one, pairs, most), choice_of(one.variables, variables))


def least_keeps(one, pairs, *, most=200):
    """The ascending list of the keeps that are enough, but not if any variable is taken out."""
    many = one.variables
    return sorted([listed(many, choice) for choice in least_choices(many, enough_choices(one, pairs, most))])


def least_lists(many, enough):
    """The ascending list of the least bars, if these choices are enough."""
    return sorted([listed(many, choice) for choice in least_choices(many, bars_against(many, enough))])


def least_bars(one, pairs, *, most=200):
    """The ascending list of the bars that are none if any variable is taken out."""
    return least_lists(one.variables, enough_choices(one, pairs, most))


def cheapest(one, pairs, prices, *, most=200):
    """A tuple (price, keep, bars) of the cheapest enough keep, with the least bars, or None."""
    many = one.variables
    enough = enough_choices(one, pairs, most)
    rows = [(price_of(prices, choice), listed(many, choice)) for choice in range(1 << many) if has(enough, choice)]
    if len(rows) == 0:
        return None
    price, keep = min(rows)
    return (price, keep, least_lists(many, enough))


def is_bar(one, pairs, thing, *, most=200):
    """Whether any value is a list of variables without which the others are not enough."""
    bars = bars_against(one.variables, enough_choices(one, pairs, most))
    choice = choice_of(one.variables, thing)
    return choice is not None and has(bars, choice)


def are_cheapest(many, enough, prices, price, keep, bars):
    """Whether any values are the price of a keep, this keep, and bars that show that no enough one is cheaper."""
    kept = choice_of(many, keep)
    if kept is None or not has(enough, kept) or not is_integer(price) or price != price_of(prices, kept):
        return False
    found = [choice_of(many, bar) for bar in bars] if isinstance(bars, list) else [None]
    against = bars_against(many, enough)
    if not all([bar is not None and has(against, bar) for bar in found]):
        return False
    different = sorted(set(found))
    met = [choice for choice in range(1 << many) if all([choice & bar != 0 for bar in different])]
    return all([price_of(prices, choice) >= price for choice in met])


def is_cheapest(one, pairs, prices, thing, *, most=200):
    """Whether any value is a tuple (price, keep, bars) of a cheapest enough keep and bars that show it."""
    enough = enough_choices(one, pairs, most)
    if not (isinstance(thing, tuple) and len(thing) == 3):
        return False
    return are_cheapest(one.variables, enough, prices, thing[0], thing[1], thing[2])
