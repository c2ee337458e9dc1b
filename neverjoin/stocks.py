"""Stocks: lots of inner words that are led word by word."""

from neverjoin.books import wrong_part
from neverjoin.errors import NoWord
from neverjoin.exchanges import lot_without
from neverjoin.history import History
from neverjoin.inner import MOST_WAYS, find_bar, made
from neverjoin.kinds import ask_number, is_text


class Stock:
    """The inner words of a full book with so many ways, none at first."""

    def __init__(self, web, ways):
        ask_number(1, MOST_WAYS, ways)
        self._web = web
        self._ways = ways
        self._done = History(())

    def put(self, text):
        """Put a word to the lot."""
        if not is_text(text):
            raise NoWord()
        lot = tuple(sorted(self.lot() + (text,)))
        if wrong_part(self._web, lot) is not None or find_bar(self._web, lot, self._ways) is not None:
            raise NoWord()
        self._done.go(lot)

    def drop(self, text):
        """Take a word out of the lot."""
        lot = lot_without(self.lot(), self._ways, text)
        if lot is None:
            raise NoWord()
        self._done.go(lot)

    def lot(self):
        """The lot."""
        return self._done.last()

    def book(self):
        """The full book whose inner words are the lot."""
        return made(self._web, self.lot(), self._ways)

    def back(self):
        """Take back the last word that was put or dropped."""
        self._done.go_back()

    def depth(self):
        """How many words that were put or dropped can be taken back."""
        return self._done.steps()

    def copy(self):
        """Another stock that goes on apart."""
        other = Stock(self._web, self._ways)
        other._done = self._done.branch()
        return other

    def trying(self, action):
        """What an action with the stock returns, behind which everything is put back."""
        kept = self._done.branch()
        try:
            return action(self)
        finally:
            self._done = kept
