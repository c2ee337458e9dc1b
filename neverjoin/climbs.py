"""Climbs: from full book to full book of a web, a way up or down, an inner word in or out."""

from neverjoin.errors import NoNumber
from neverjoin.exchanges import put_in, taken_out
from neverjoin.history import History
from neverjoin.kinds import is_number
from neverjoin.listing import book_of_letters
from neverjoin.tower import less, more


class Climb:
    """A full book of a web, that of all letters at first."""

    def __init__(self, web):
        self._web = web
        self._done = History(book_of_letters(web))

    def book(self):
        """The book at which the climb stands."""
        return self._done.last()

    def up(self, number):
        """Go to the book with a number among those with a way more."""
        books = more(self.book())
        if not is_number(0, len(books) - 1, number):
            raise NoNumber()
        self._done.go(books[number])

    def down(self):
        """Go to the book with a way less."""
        self._done.go(less(self.book()))

    def put(self, text):
        """Go to the book with a text as a further inner word."""
        self._done.go(put_in(self.book(), text))

    def drop(self, text):
        """Go to the book without an inner word."""
        self._done.go(taken_out(self.book(), text))

    def back(self):
        """Take back the last going."""
        self._done.go_back()

    def depth(self):
        """How many goings can be taken back."""
        return self._done.steps()

    def copy(self):
        """Another climb that goes on apart."""
        other = Climb(self._web)
        other._done = self._done.branch()
        return other

    def trying(self, action):
        """What an action with the climb returns, behind which everything is put back."""
        kept = self._done.branch()
        try:
            return action(self)
        finally:
            self._done = kept
