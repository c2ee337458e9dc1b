"""Walkers, led through the web of a book letter by letter."""

from neverjoin.errors import NoLetter
from neverjoin.history import History
from neverjoin.kinds import is_letter
from neverjoin.masks import all_points, step
from neverjoin.tracing import Trace


class Walker:
    """A text of the web of a book that gets longer, and its readings.

    A state is the last letter, the mask of the points that it leads to, what
    of the words stands at the end, the word that ends there, and the readings.
    """

    def __init__(self, book):
        self._book = book
        self._trace = Trace(book.words)
        self._done = History(("", all_points(book.web), "", "", 1))

    def take(self, letter):
        """Put a letter behind the text; the word that comes and ends there, None if none does."""
        if not is_letter(letter):
            raise NoLetter()
        _, mask, head, _, readings = self._done.last()
        after = step(self._book.web.onward, mask, letter)
        if not after:
            raise NoLetter()
        longer, word = self._trace.step(head, letter)
        if word == "":
            self._done.go((letter, after, longer, "", readings + 1))
            return None
        self._done.go((letter, after, longer, word, readings))
        return word

    def text(self):
        """The text so far."""
        return "".join([state[0] for state in self._done.states])

    def many(self):
        """The number of the readings of the text."""
        return self._done.last()[4]

    def since(self):
        """The ascending tuple of the numbers of letters behind the last cut of each reading."""
        sizes = [len(state[3]) for state in self._done.states]
        # A cut is no last one where a word that ends at some later place begins.
        begun = {place - size: True for place, size in enumerate(sizes) if size}
        return tuple([age for age in range(len(sizes)) if len(sizes) - 1 - age not in begun])

    def back(self):
        """Take back the last letter."""
        self._done.go_back()

    def depth(self):
        """How many letters can be taken back."""
        return self._done.steps()

    def copy(self):
        """Another walker that goes on apart."""
        other = Walker(self._book)
        other._done = self._done.branch()
        return other

    def trying(self, action):
        """What an action with the walker returns, behind which everything is put back."""
        kept = self._done.branch()
        try:
            return action(self)
        finally:
            self._done = kept
