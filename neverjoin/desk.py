"""A desk that keeps books under names and tells of them, line by line."""

from neverjoin.errors import NoLine, NoName, NothingDone
from neverjoin.full import all_ways
from neverjoin.inner import inner
from neverjoin.kinds import is_decimal, is_long_text, is_text
from neverjoin.lanes import lanes, turn
from neverjoin.listing import many_books
from neverjoin.reading import read_book
from neverjoin.readings import ways
from neverjoin.tower import less

LONGEST_NAME = 8
# What stands behind the first word of a line.
FORMS = {
    "book": ("name", "lines"),
    "drop": ("name",),
    "names": (),
    "full": ("name",),
    "ways": ("name", "text"),
    "inner": ("name",),
    "less": ("name",),
    "lanes": ("name", "text"),
    "turn": ("name", "text"),
    "many": ("name", "number"),
    "undo": (),
}


class Desk:
    """Books under their names."""

    def __init__(self):
        self._books = {}
        # For each line that can be taken back the name, and the book that was there ahead of it, or None.
        self._done = []

    def tell(self, line):
        """Do a line, and tell what comes of it."""
        words = words_of_line(line)
        kind = words[0]
        if kind == "names":
            return joined(sorted(self._books))
        if kind == "undo":
            return self._undo()
        if kind == "book":
            return self._keep(words[1], read_book(words[2].replace("|", "\n")))
        book = self._books.get(words[1])
        if book is None:
            raise NoName(words[1])
        if kind == "drop":
            return self._keep(words[1], None)
        return told_of(book, kind, words[-1])

    def undoable(self):
        """How many lines can be taken back."""
        return len(self._done)

    def _keep(self, name, book):
        """Put a book, or none, in the place of what is under a name, such that it can be taken back."""
        self._done.append((name, self._books.get(name)))
        self._hold(name, book)
        return "ok"

    def _undo(self):
        """Take back the last line that put or dropped a book."""
        if not self._done:
            raise NothingDone()
        name, book = self._done.pop()
        self._hold(name, book)
        return "ok"

    def _hold(self, name, book):
        """Have a book, or none, under a name."""
        if book is None:
            del self._books[name]
        else:
            self._books[name] = book


def words_of_line(line):
    """The list of the words of a line, that of a book's text being one of them: NoLine if it has none of the forms."""
    if not isinstance(line, str) or "\n" in line:
        raise NoLine()
    words = line.split(" ")
    if words[0] == "book":
        words = line.split(" ", 2)
    if words[0] not in FORMS:
        raise NoLine()
    form = FORMS[words[0]]
    if len(words) != len(form) + 1 or not all([fits(part, word) for part, word in zip(form, words[1:])]):
        raise NoLine()
    return words


def fits(part, word):
    """Whether a word can stand for a part of a form."""
    if part == "name":
        return is_long_text(1, LONGEST_NAME, word)
    if part == "number":
        return is_decimal(word)
    return word != "" and (part == "lines" or is_text(word))


def told_of(book, kind, last):
    """What a line of a kind, with a last word, tells of a book."""
    if kind == "full":
        many = all_ways(book)
        return "no" if many is None else str(many)
    if kind == "ways":
        return str(ways(book, last))
    if kind == "inner":
        return joined(inner(book))
    if kind == "less":
        return joined(less(book).words)
    if kind == "lanes":
        return joined([str(rounds) for _, rounds in lanes(book, last)])
    if kind == "turn":
        return joined([str(number) for number in turn(book, last)])
    return str(many_books(book.web, int(last)))


def joined(words):
    """Some words with blanks between, or none."""
    if len(words) == 0:
        return "none"
    return " ".join(words)
