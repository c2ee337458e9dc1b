"""Stretches with few readings."""

from neverjoin.errors import TooMany
from neverjoin.full import ask_full
from neverjoin.kinds import ask_number
from neverjoin.masks import letter_moves
from neverjoin.tracing import Trace, first_state, read_on

MOST_THIN = 2000
LONGEST_COUNTED = 60


def thin_texts(web, words, most):
    """The list of the stretches with at most so many readings by words, shorter ones first, each length ascending."""
    moves = letter_moves(web)
    trace = Trace(words)
    found = []
    # Readings do not become fewer, so a stretch with few has them for its beginnings too.
    level = []
    if most > 0:
        level.append(("", first_state(web)))
    while level:
        found += [text for text, _ in level]
        if len(found) > MOST_THIN:
            raise TooMany(MOST_THIN)
        longer = [(text + letter, after) for text, state in level for letter, after in read_on(moves, trace, state)]
        level = [(text, state) for text, state in longer if state[2] <= most]
    return found


def thin(book):
    """The list of the stretches with fewer readings than the ways of a full book."""
    return thin_texts(book.web, book.words, ask_full(book) - 1)


def settling(book):
    """The least length such that stretches of this length or more have as many readings as the ways."""
    return max([len(text) for text in thin(book)], default=-1) + 1


def ways_counts(book, length):
    """The dict from numbers of readings to how many stretches of a length have so many."""
    ask_number(0, LONGEST_COUNTED, length)
    moves = letter_moves(book.web)
    trace = Trace(book.words)
    counts = {first_state(book.web): 1}
    for _ in range(length):
        longer = {}
        for state in counts:
            for _, after in read_on(moves, trace, state):
                longer[after] = longer.get(after, 0) + counts[state]
        counts = longer
    found = {}
    for state in counts:
        found[state[2]] = found.get(state[2], 0) + counts[state]
    return found
