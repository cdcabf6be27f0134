"""Texts of integers and of terms. What reads a text tells None if it is not exactly the text of something."""

from framemoves.kinds import are_terms, is_name
from framemoves.nodes import shared
from framemoves.terms import exceeds

DIGITS = "0123456789"
MOST_DIGITS = 40
MOST_OPERATIONS = 200


def number_in(text):
    """The integer from 0 on with a text, or None."""
    if not (1 <= len(text) <= MOST_DIGITS and all([letter in DIGITS for letter in text])):
        return None
    return int(text) if text[0] != "0" or text == "0" else None


def integer_in(text):
    """The integer with a text, or None."""
    if not text.startswith("-"):
        return number_in(text)
    found = number_in(text[1:])
    return -found if found is not None and found > 0 else None


def texts_of(terms):
    """The list of the texts of terms."""
    nodes, tops = shared(terms)
    made = []
    for node in nodes:
        parts = [made[part] for part in node[1:]]
        made.append(f"{node[0]}" + (listed_texts(parts) if parts else ""))
    return [made[top] for top in tops]


def listed_texts(texts):
    """Texts in parentheses with a comma between each two."""
    return "(" + ",".join(texts) + ")"


def listed(terms):
    """The text of terms that are listed."""
    return listed_texts(texts_of(terms))


def words_of(text):
    """The list of the names, numbers and signs in a text of terms."""
    for sign in "(,)":
        text = text.replace(sign, f" {sign} ")
    return text.split()


def leaf_in(word):
    """The unknown or the constant with a text, or None."""
    return (word,) if is_name(word) else number_in(word)


def laxly_read(text):
    """The list of what stands in a text of terms, perhaps with None in it, or None.

    Commas, blanks and what is not closed are passed over.
    """
    names = []
    rows = [[]]
    for word in words_of(text):
        if word == "(":
            # The constant just ahead is the operation that is opened; none may be within too many others.
            last = rows[-1].pop() if rows[-1] else None
            if not isinstance(last, tuple) or len(last) > 1 or len(names) == MOST_OPERATIONS:
                return None
            names.append(last[0])
            rows.append([])
        elif word == ")":
            if len(names) == 0:
                return None
            parts = rows.pop()
            rows[-1].append((names.pop(),) + tuple(parts))
        elif word != ",":
            rows[-1].append(leaf_in(word))
    return rows[0]


def terms_told(text):
    """The list of the terms in a text that may be one of terms with commas between them, or None."""
    found = laxly_read(text)
    if found is None or not are_terms(found):
        return None
    return None if any([exceeds([term], MOST_OPERATIONS) for term in found]) else found


def term_in(text):
    """The term with a text, or None."""
    found = terms_told(text)
    return found[0] if found is not None and texts_of(found) == [text] else None


def listed_in(text):
    """The tuple of the terms that are listed in a text, or None."""
    found = terms_told(text[1:-1])
    return tuple(found) if found is not None and listed(found) == text else None
