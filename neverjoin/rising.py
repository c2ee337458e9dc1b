"""From the words of a full book to those of the full books with a way more.

Some words that are not inner are left out, such that each endless text has
some of them in it. The other words stay; each stretch that begins with a word
that is left out, ends with one, and has no further one in it becomes a word.
"""

from neverjoin.errors import TooMany
from neverjoin.inner import inner
from neverjoin.masks import letter_moves
from neverjoin.tracing import Trace, first_state

MOST_WITHIN = 2000
MOST_BOOKS = 2000


def word_table(web, words):
    """The list that has for each state the dict from letters to pairs (state, word), the word ending there.

    States tell what matters of a stretch to what can come behind it. The
    empty stretch has the state 0.
    """
    moves = letter_moves(web)
    trace = Trace(words)
    mask, head, _ = first_state(web)
    states = [(mask, head)]
    numbers = {(mask, head): 0}
    table = []
    while len(table) < len(states):
        mask, head = states[len(table)]
        row = {}
        for letter, after in moves.listed(mask):
            longer, word = trace.step(head, letter)
            if (after, longer) not in numbers:
                numbers[(after, longer)] = len(states)
                states.append((after, longer))
            row[letter] = (numbers[(after, longer)], word)
        table.append(row)
    return table


def steps_by(table, kept):
    """The list that has for each state those to which letters lead at which no word ends but kept ones."""
    return [[end for end, word in row.values() if word == "" or word in kept] for row in table]


def steps_into(leading):
    """The dict from each state that is led to from the state 0, and it itself, to how many steps lead there."""
    many = {0: 0}
    waiting = [0]
    while waiting:
        state = waiting.pop()
        for end in leading[state]:
            if end not in many:
                many[end] = 0
                waiting.append(end)
            many[end] += 1
    return many


def many_stretches_by(table, kept):
    """How many stretches have no words in them but kept ones, None if there is no end of them."""
    leading = steps_by(table, kept)
    missing = steps_into(leading)
    counts = {state: 0 for state in missing}
    counts[0] = 1
    waiting = [state for state in missing if missing[state] == 0]
    done = []
    while waiting:
        state = waiting.pop()
        done.append(counts[state])
        for end in leading[state]:
            counts[end] += counts[state]
            missing[end] -= 1
            if missing[end] == 0:
                waiting.append(end)
    # Where steps come round, their states are never done.
    if len(done) < len(missing):
        return None
    return sum(done)


def lots_above(table, first, others, most):
    """The list of all lots of words, dicts of True, with some first words and some of the others, that go on.

    They go on if some word that is left out comes in each endless text. With
    more words kept it comes in fewer, so a lot that goes on is found from a smaller one.
    """
    lots = [{word: True for word in first}]
    ask_within(many_stretches_by(table, lots[0]))
    ask_most(lots, most)
    for word in others:
        longer = []
        for lot in lots:
            kept = {**lot, word: True}
            many = many_stretches_by(table, kept)
            if many is not None:
                ask_within(many)
                longer.append(kept)
                ask_most(longer, most - len(lots))
        lots = lots + longer
    return lots


def ask_within(many):
    """Raise TooMany if there are too many stretches strictly within the words of a book."""
    if many > MOST_WITHIN:
        raise TooMany(MOST_WITHIN)


def ask_most(books, most):
    """Raise TooMany if there are more than so many books, which are the rest of those that may be."""
    if len(books) > most:
        raise TooMany(MOST_BOOKS)


def words_above(table, words, kept):
    """The list of the words of the full book with a way more that comes of the words of one if just some are kept."""
    out = {word: True for word in words if word not in kept}
    found = list(kept)
    for word in out:
        state = 0
        for letter in word:
            state, _ = table[state][letter]
        found += texts_to(table, out, word, state)
    return found


def texts_to(table, out, text, state):
    """The list of the stretches that go on from a text at a state to the next one of the words that are out."""
    waiting = [(text, state)]
    found = []
    while waiting:
        text, state = waiting.pop()
        for letter, (end, word) in table[state].items():
            if word in out:
                found.append(text + letter)
            else:
                waiting.append((text + letter, end))
    return found


def word_lists_above(book, most):
    """The list of the lists of words of the full books with a way more of which a full book is the less.

    TooMany if there are more than so many, or if too many stretches lie within the words of one.
    """
    first = inner(book)
    others = [word for word in book.words if word not in first]
    table = word_table(book.web, book.words)
    return [words_above(table, book.words, kept) for kept in lots_above(table, first, others, most)]
