"""Books: yards that are changed and gone through by deeds, which can be undone and done again."""

from framemoves.codes import Code
from framemoves.deeds import begun, behind_deed, is_deed, walk_from, yard_of
from framemoves.errors import Full, NoDeed, NoEntry, Nothing, Wrong
from framemoves.kinds import is_below
from framemoves.runs import is_run, seen

MOST_DEEDS = 200


class Book:
    """A book: a yard, a frame in it, and a log of deeds. An entry is a tuple (deed, page behind it)."""

    def __init__(self, true):
        if not isinstance(true, Code):
            raise Wrong(0)
        self._true = true
        self._first = begun(yard_of(true, [true], []), 0)
        # Both lists are replaced as a whole, so that a trial can put the old ones back.
        self._entries = []
        self._undone = []

    def _page(self):
        """The page behind the last deed."""
        return self._entries[-1][1] if self._entries else self._first

    def do(self, deed):
        """What is seen next behind a deed, which is done."""
        if not is_deed(deed):
            raise NoDeed()
        if len(self._entries) == MOST_DEEDS:
            raise Full(MOST_DEEDS)
        page = behind_deed(self._page(), deed)
        head = walk_from(page).seen_next()
        self._entries = self._entries + [(deed, page)]
        self._undone = []
        return head

    def back(self):
        """The last deed of the log, which is undone."""
        if len(self._entries) == 0:
            raise Nothing()
        entry = self._entries[-1]
        self._entries = self._entries[:-1]
        self._undone = self._undone + [entry]
        return entry[0]

    def again(self):
        """The deed that was undone last, which is done again."""
        if len(self._undone) == 0:
            raise Nothing()
        entry = self._undone[-1]
        self._undone = self._undone[:-1]
        self._entries = self._entries + [entry]
        return entry[0]

    def yard(self):
        """The Yard, in all of whose versions histories can begin."""
        return self._page()[0]

    def frame(self):
        """The tuple (version, place, values)."""
        return self._page()[1]

    def outcomes(self):
        """The list of the outcomes since it began."""
        return list(self._page()[3])

    def shown(self):
        """The list of what is shown since it began, and of what is seen next."""
        page = self._page()
        return list(page[4]) + [walk_from(page).seen_next()]

    def is_right(self):
        """Whether the outcomes are a run of the true code, and what is shown is what this shows in it."""
        outcomes = self.outcomes()
        return is_run(self._true, outcomes) and self.shown() == seen(self._true, outcomes)

    def log(self):
        """The list of the deeds."""
        return [deed for deed, _ in self._entries]

    def until(self, many):
        """The Book in which the first deeds of the log are done, so many."""
        if not is_below(many, len(self._entries) + 1):
            raise NoEntry(many)
        book = Book(self._true)
        book._entries = self._entries[:many]
        return book

    def trial(self, act):
        """What a callable returns that is called with the book, which is then as it was."""
        entries = self._entries
        undone = self._undone
        try:
            return act(self)
        finally:
            self._entries = entries
            self._undone = undone

    def __eq__(self, other):
        return isinstance(other, Book) and self._true == other._true and self.log() == other.log()

    def __len__(self):
        return len(self._entries)
