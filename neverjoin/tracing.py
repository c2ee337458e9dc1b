"""Texts read letter by letter for the words that end in them."""

from neverjoin.masks import all_points


class Trace:
    """Words, none of which ends another one, and what of them stands at the end of what was read.

    A state is the longest text at the end of what was read that begins a word
    and is none itself; nothing else of what was read matters to what comes.
    """

    def __init__(self, words):
        self.words = {word: True for word in words}
        self.heads = {word[:size]: True for word in words for size in range(len(word))}
        self.heads[""] = True
        self.shorter = {}
        self.ended = {}
        self.known = {}

    def link(self):
        """Find for each beginning of a word, or whole word, the longest other one and the word with which it ends."""
        self.shorter[""] = ""
        self.ended[""] = ""
        for text in sorted({**self.heads, **self.words}, key=len)[1:]:
            self.shorter[text] = ""
            if len(text) > 1:
                self.shorter[text] = self.longest(self.shorter[text[:-1]], text[-1])
            self.ended[text] = text
            if text not in self.words:
                self.ended[text] = self.ended[self.shorter[text]]

    def longest(self, head, letter):
        """The longest beginning of a word, or whole word, with which a beginning and a letter behind it end."""
        while head != "" and not self.begins(head + letter):
            head = self.shorter[head]
        if self.begins(head + letter):
            return head + letter
        return ""

    def begins(self, text):
        """Whether a text begins a word or is one."""
        return text in self.heads or text in self.words

    def step(self, head, letter):
        """The pair (head, word) behind a letter more: the word that ends there, the empty text if none does."""
        found = self.known.get((head, letter))
        if found is None:
            if not self.shorter:
                self.link()
            text = self.longest(head, letter)
            longer = text
            if text in self.words:
                # No word ends with another one, so what is next is none.
                longer = self.shorter[text]
            found = (longer, self.ended[text])
            self.known[(head, letter)] = found
        return found


def first_state(web):
    """The state (mask, head, readings) of the empty stretch."""
    return (all_points(web), "", 1)


def read_letter(trace, head, times, letter):
    """The pair (head, readings) behind a letter more."""
    longer, word = trace.step(head, letter)
    if word != "":
        return (longer, times)
    # No word ends at the new place, so a reading of its own begins there.
    return (longer, times + 1)


def read_on(moves, trace, state):
    """The list of pairs (letter, state), ascending, behind a state (mask, head, readings)."""
    mask, head, times = state
    found = []
    for letter, after in moves.listed(mask):
        longer, more = read_letter(trace, head, times, letter)
        found.append((letter, (after, longer, more)))
    return found


def count_readings(trace, text):
    """The number of readings of a text by the words of a trace."""
    head = ""
    times = 1
    for letter in text:
        head, times = read_letter(trace, head, times, letter)
    return times
