"""Texts read letter by letter for the words that end in them."""

from neverjoin.masks import all_points


class Trace:
    """Words, none of which ends another one, and what of them stands at the end of what was read.

    A state is the longest text at the end of what was read that begins a word
    and is none itself; nothing else of what was read matters to what comes.
    """

    def __init__(self, words):
        self.words = {word: True for word in words}
        self.heads = {word[:size]: True for word in words for size in range(len(word))}
        self.heads[""] = True
        self.shorter = {}
        self.known = {}

    def endings(self, head):
        """The list of the heads with which a head ends, longest first, the empty one last."""
        found = self.shorter.get(head)
        if found is None:
            found = [head[start:] for start in range(len(head) + 1) if head[start:] in self.heads]
            self.shorter[head] = found
        return found

    def step(self, head, letter):
        """The pair (head, word) behind a letter more: the word that ends there, the empty text if none does."""
        found = self.known.get((head, letter))
        if found is None:
            # A word or a head that ends here has just such an ending ahead of its last letter.
            texts = [ending + letter for ending in self.endings(head)] + [""]
            words = [text for text in texts if text in self.words] + [""]
            found = ([text for text in texts if text in self.heads][0], words[0])
            self.known[(head, letter)] = found
        return found


def first_state(web):
    """The state (mask, head, readings) of the empty stretch."""
    return (all_points(web), "", 1)


def read_letter(trace, head, times, letter):
    """The pair (head, readings) behind a letter more."""
    longer, word = trace.step(head, letter)
    if word != "":
        return (longer, times)
    # No word ends at the new place, so a reading of its own begins there.
    return (longer, times + 1)


def read_on(moves, trace, state):
    """The list of pairs (letter, state), ascending, behind a state (mask, head, readings)."""
    mask, head, times = state
    found = []
    for letter, after in moves.listed(mask):
        longer, more = read_letter(trace, head, times, letter)
        found.append((letter, (after, longer, more)))
    return found


def count_readings(trace, text):
    """The number of readings of a text by the words of a trace."""
    head = ""
    times = 1
    for letter in text:
        head, times = read_letter(trace, head, times, letter)
    return times
