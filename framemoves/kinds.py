"""What a value is: an integer, a name, an outcome, a term. All of these take any value."""

LETTERS = "abcdefghijklmnopqrstuvwxyz"


def is_integer(thing):
    """Whether the thing is an int that is not True or False."""
    return isinstance(thing, int) and not isinstance(thing, bool)


def is_below(thing, bound):
    """Whether the thing is an integer from 0 on that is less than the bound."""
    return is_integer(thing) and 0 <= thing < bound


def is_name(thing):
    """Whether the thing is a string of one to eight letters a to z."""
    return isinstance(thing, str) and 1 <= len(thing) <= 8 and all([letter in LETTERS for letter in thing])


def is_outcome(thing):
    """Whether the thing is a name, or a name with one - behind it."""
    return isinstance(thing, str) and (is_name(thing) or (thing.endswith("-") and is_name(thing[:-1])))


def are_terms(things):
    """Whether all things in a list or tuple are terms."""
    # A list of what is still to be looked at: terms may be deeper than calls may be nested.
    ahead = list(things)
    while ahead:
        thing = ahead.pop()
        if isinstance(thing, tuple):
            if not (1 <= len(thing) <= 4 and is_name(thing[0])):
                return False
            ahead.extend(thing[1:])
        elif not (is_integer(thing) and thing >= 0):
            return False
    return True


def is_term(thing):
    """Whether the thing is a term."""
    return are_terms([thing])


def are_values(many, thing):
    """Whether the thing is a tuple of so many terms."""
    return isinstance(thing, tuple) and len(thing) == many and are_terms(thing)
