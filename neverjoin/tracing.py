"""Texts read letter by letter for the words that end in them."""


class Trace:
    """Words, and what of them stands at the end of what was read.

    A state is the longest text at the end of what was read that begins a word
    and is none itself; nothing else of what was read matters to what comes.
    """

    def __init__(self, words):
        self.words = {word: True for word in words}
        self.heads = {word[:size]: True for word in words for size in range(len(word))}
        self.heads[""] = True
        self.known = {}

    def step(self, head, letter):
        """The pair (head, flag) behind a letter more; the flag tells whether a word ends there."""
        found = self.known.get((head, letter))
        if found is None:
            endings = tails(head + letter)
            ended = any([ending in self.words for ending in endings])
            found = ([ending for ending in endings if ending in self.heads][0], ended)
            self.known[(head, letter)] = found
        return found


def tails(text):
    """The list of the texts with which a text ends, longest first, the empty one last."""
    return [text[start:] for start in range(len(text) + 1)]
