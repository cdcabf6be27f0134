"""Terms, codes, moves, deeds and logs as texts. Each thing has exactly one text."""

from framemoves.book import Book
from framemoves.codes import Code
from framemoves.deeds import is_item
from framemoves.errors import Broken, MoveError, NoText
from framemoves.recipes import Recipe
from framemoves.texts import integer_in, listed, listed_in, number_in, term_in, texts_of
from framemoves.worlds import World


def show_term(term):
    """The text of a term."""
    return texts_of([term])[0]


def read_term(text):
    """The term with a text."""
    term = term_in(text) if isinstance(text, str) else None
    if term is None:
        raise NoText()
    return term


def act_line(world, act):
    """The line of an act."""
    outcomes = [f" {outcome}:{world.brings(act, outcome)}" for outcome in world.outcomes(act)]
    return f"act {act} {world.arguments(act)}" + "".join(outcomes)


def statement_line(statement):
    """The line of a statement."""
    if statement[0] == "set":
        texts = texts_of([term for _, term in statement[1]])
        changes = [f" {change[0]}={text}" for change, text in zip(statement[1], texts)]
        return f"set {statement[2]}" + "".join(changes)
    line = f"{statement[0]} {statement[1]} {listed(statement[2])}"
    for outcome, variables, to in statement[3] if statement[0] == "ask" else ():
        line = line + f" {outcome}:{to}" + "".join([f":{variable}" for variable in variables])
    return line


def show_code(code):
    """The text of a code."""
    lines = [act_line(code.world, act) for act in code.world.acts()]
    lines.append(f"code {code.variables} {code.given} {len(code)}")
    lines.extend([statement_line(statement) for statement in code.statements()])
    return "".join([line + "\n" for line in lines])


def act_in(line):
    """The tuple (act, (arguments, outcomes)) that a line may tell; it may have None in it."""
    name, _, rest = line.partition(" ")[2].partition(" ")
    words = rest.split(" ")
    parts = [word.partition(":") for word in words[1:]]
    return (name, (number_in(words[0]), {outcome: number_in(brought) for outcome, _, brought in parts}))


def way_in(word):
    """The way that a word may tell; it may have None in it."""
    parts = word.split(":") + [""]
    return (parts[0], tuple([number_in(part) for part in parts[2:-1]]), number_in(parts[1]))


def change_in(word):
    """The change that a word may tell; it may have None in it."""
    variable, _, text = word.partition("=")
    return (number_in(variable), term_in(text))


def statement_in(line):
    """The statement that a line may tell; it may have None in it, or be None."""
    words = line.split(" ")
    if words[0] == "set" and len(words) > 1:
        return ("set", tuple([change_in(word) for word in words[2:]]), number_in(words[1]))
    if words[0] == "ask" and len(words) > 2:
        return ("ask", words[1], listed_in(words[2]), tuple([way_in(word) for word in words[3:]]))
    if words[0] == "end" and len(words) > 2:
        return ("end", words[1], listed_in(words[2]))
    return None


def acts_ahead(lines, at):
    """The index of the first line, from at on, that is none of an act."""
    while at < len(lines) and lines[at].startswith("act "):
        at += 1
    return at


def code_in(text):
    """The Code with a text, or None."""
    lines = text.split("\n")
    at = acts_ahead(lines, 0)
    words = (lines[at] if at < len(lines) else "").split(" ")
    if len(words) != 4:
        return None
    try:
        world = World({name: act for name, act in [act_in(line) for line in lines[:at]]})
        statements = [statement_in(line) for line in lines[at + 1:-1]]
        code = Code(world, number_in(words[1]), number_in(words[2]), statements)
    except MoveError:
        return None
    # Whatever was passed over on the way is not in the text of the code.
    return code if show_code(code) == text else None


def read_code(text):
    """The Code with a text."""
    code = code_in(text) if isinstance(text, str) else None
    if code is None:
        raise NoText()
    return code


def show_move(move):
    """The text of a move of a yard."""
    version, place, other, there, recipe, kind = move
    return f"{version} {place} {other} {there} {kind} {recipe.variables} {listed(recipe.terms)}"


def move_in(text):
    """The move with a text, or None."""
    words = text.split(" ")
    if len(words) != 7 or words[4] not in ("may", "must"):
        return None
    try:
        recipe = Recipe(number_in(words[5]), listed_in(words[6]))
    except MoveError:
        return None
    numbers = [number_in(word) for word in words[:4]]
    return None if None in numbers else tuple(numbers) + (recipe, words[4])


def read_move(text):
    """The move of a yard with a text."""
    move = move_in(text) if isinstance(text, str) else None
    if move is None:
        raise NoText()
    return move


def show_deed(deed):
    """The text of a deed."""
    kind, what = deed
    if kind == "version":
        return "version\n" + show_code(what)[:-1]
    if kind == "move":
        return "move " + show_move(what)
    return f"{kind} -" if what == "" else f"{kind} {what}"


def item_in(text):
    """The item of histories with a text, or None."""
    if text == "-":
        return ""
    number = integer_in(text)
    item = text if number is None else number
    return item if item != "" and is_item(item) else None


def told_in(kind, text):
    """What a deed of a kind tells by a text behind the kind, or None."""
    if kind == "move":
        return move_in(text)
    if kind == "go":
        return item_in(text)
    return integer_in(text) if kind in ("drop", "begin") else None


def read_deed(text):
    """The deed with a text."""
    if not isinstance(text, str):
        raise NoText()
    if text.startswith("version\n"):
        return ("version", read_code(text.partition("\n")[2] + "\n"))
    kind, _, rest = text.partition(" ")
    told = told_in(kind, rest)
    if told is None:
        raise NoText()
    return (kind, told)


def show_log(book):
    """The text of the log of a book."""
    return "".join([show_deed(deed) + "\n" for deed in book.log()])


def lines_of_deed(lines, at):
    """How many lines the deed has that begins with the line at an index, if there is one."""
    if lines[at] != "version":
        return 1
    ahead = acts_ahead(lines, at + 1)
    places = number_in(lines[ahead].rpartition(" ")[2]) if ahead < len(lines) else None
    return len(lines) if places is None else ahead + 1 + places - at


def deeds_in(text):
    """The list of the deeds of a log with a text."""
    lines = text.split("\n")
    if lines[-1] != "":
        raise NoText()
    deeds = []
    at = 0
    while at < len(lines) - 1:
        # If there are not so many lines, nothing has the text of those that there are.
        count = lines_of_deed(lines, at)
        deeds.append(read_deed("\n".join(lines[at:at + count])))
        at += count
    return deeds


def read_log(true, text):
    """The Book of a true code whose log has a text."""
    if not isinstance(text, str):
        raise NoText()
    book = Book(true)
    for at, deed in enumerate(deeds_in(text)):
        try:
            book.do(deed)
        except MoveError:
            raise Broken(at) from None
    return book
