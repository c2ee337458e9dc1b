"""Inner words, and the full books that they make."""

from neverjoin.books import wide_book, wrong_part
from neverjoin.errors import NoLot
from neverjoin.full import ask_full
from neverjoin.graphs import round_text
from neverjoin.kinds import ask_number
from neverjoin.masks import all_points, letter_moves, points_of, walked
from neverjoin.stretches import is_ring
from neverjoin.thin import thin_texts
from neverjoin.tracing import Trace, count_readings, first_state, read_letter, read_on
from neverjoin.webs import arrows_from, letters, surplus

MOST_WAYS = 6


def inner(book):
    """The ascending tuple of the words that lie strictly within another word."""
    trace = Trace(book.words)
    within = {}
    for word in book.words:
        head = ""
        for letter in word[1:-1]:
            head, ended = trace.step(head, letter)
            within[ended] = True
    return tuple([word for word in book.words if word in within])


def ask_lot(web, lot, ways):
    """Raise NoLot or NoNumber unless a thing is a lot of the web and a number one of ways."""
    if wrong_part(web, lot) is not None:
        raise NoLot()
    ask_number(1, MOST_WAYS, ways)


def made(web, lot, ways):
    """The full book with so many ways whose inner words are a lot, None if there is none."""
    if barred(web, lot, ways) is not None:
        return None
    return lot_book(web, lot, ways)


def barred(web, lot, ways):
    """What bars a lot from being the inner words of a full book with so many ways, None if nothing does."""
    ask_lot(web, lot, ways)
    return find_bar(web, lot, ways)


def find_bar(web, lot, ways):
    """What bars a lot, of any size."""
    word = thick_word(lot, ways)
    if word is not None:
        return ("word", word)
    ring = ended_ring(web, lot)
    if ring is not None:
        return ("ring", ring)
    return None


def thick_word(lot, ways):
    """The first word of a lot with so many readings by the lot, or more, None if there is none."""
    trace = Trace(lot)
    for word in lot:
        if count_readings(trace, word) >= ways:
            return word
    return None


def ended_ring(web, lot):
    """A ring at each place of which a word of a lot ends, None if there is none.

    Steps go between pairs of a point and what of the words stands at the end
    of what was read. Going round long enough they forget where they began.
    """
    trace = Trace(lot)
    leading = arrows_from(web)
    steps = []
    for head in trace.heads:
        for point in points_of(walked(web, all_points(web), head)):
            for letter, end in leading[point]:
                longer, word = trace.step(head, letter)
                if word:
                    steps.append(((point, head), letter, (end, longer)))
    return round_text(steps)


def is_barred(web, lot, ways, thing):
    """Whether a thing is a pair that bars a lot."""
    ask_lot(web, lot, ways)
    if not isinstance(thing, tuple) or len(thing) != 2:
        return False
    kind, text = thing
    if kind == "word":
        return text in lot and count_readings(Trace(lot), text) >= ways
    return kind == "ring" and is_ring(web, text) and is_ended(lot, text)


def is_ended(lot, ring):
    """Whether at each place of a ring, gone round endlessly, a word of a lot ends."""
    longest = max([len(word) for word in lot], default=0)
    text = ring * (longest // len(ring) + 2)
    # Behind so many letters all words that end at a place lie within the text.
    trace = Trace(lot)
    ended = []
    head = ""
    for letter in text:
        head, word = trace.step(head, letter)
        ended.append(word != "")
    return all(ended[longest:])


def lot_book(web, lot, ways):
    """The full book with so many ways whose inner words are a lot, of any size, that nothing bars."""
    thin_texts(web, lot, ways - 1)
    return wide_book(web, cut_words(web, lot, ways))


def cut_words(web, words, ways):
    """The words of the book in which each stretch has as many readings as by some words, but at most so many.

    A word begins at the front of a stretch and ends in it just if the stretch
    has no more readings than without its first letter.
    """
    moves = letter_moves(web)
    trace = Trace(words)
    waiting = [(letter, state, ("", 1)) for letter, state in read_on(moves, trace, first_state(web))]
    found = []
    while waiting:
        text, state, (head, times) = waiting.pop()
        if min(state[2], ways) == min(times, ways):
            found.append(text)
            continue
        for letter, after in read_on(moves, trace, state):
            waiting.append((text + letter, after, read_letter(trace, head, times, letter)))
    return found


def word_count(book):
    """The triple (ways, total, number of words), as a count over the stretches with few readings tells it."""
    many = ask_full(book)
    trace = Trace(book.words)
    total = 0
    for text in thin_texts(book.web, book.words, many - 1):
        total += (many - count_readings(trace, text)) * surplus(book.web, text)
    return (many, total, 1 + many * (len(letters(book.web)) - 1) + total)
