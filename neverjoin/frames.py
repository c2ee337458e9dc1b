"""Rows of words by number, and what makes a row of words of a stretch."""

from neverjoin.counting import numbered_row, row_rank
from neverjoin.errors import NoNumber, NoPlaces, NoRow, TooLong
from neverjoin.kinds import ask_number, is_integer, is_number, is_row
from neverjoin.masks import Moves, all_points, letter_moves, walked
from neverjoin.readings import comings, cuts_from, reading_at, readings, words_of
from neverjoin.tracing import Trace, first_state, read_on

LONGEST = 200
MOST_READINGS = 30


def row_at(book, length, number):
    """The row of words of a length with a number."""
    ask_number(0, LONGEST, length)
    if not is_integer(number):
        raise NoNumber()
    text = numbered_row(Moves(book.web, book.words), length, number)
    if text is None:
        raise NoNumber()
    return text


def row_number(book, text):
    """The number of a row of words among those of its length."""
    words = words_of(book, text)
    if words is None:
        raise NoRow()
    if len(text) > LONGEST:
        raise TooLong(LONGEST)
    return row_rank(Moves(book.web, book.words), words)


def frame(book, text):
    """The least of the shortest pairs of texts that make a row of words of a stretch, None if there is none."""
    leading = dict(comings(book, text))
    if text == "":
        return ("", "")
    found = frames_within(book, text) + frames_across(book, text, leading)
    if not found:
        return None
    _, front, back = min(found)
    return (front, back)


def frames_within(book, text):
    """The list of triples (letters, front, back) of the frames with which a stretch is one word."""
    found = []
    size = len(text)
    for word in book.words:
        for at in range(len(word) - size + 1):
            if word[at:at + size] == text:
                found.append((len(word) - size, word[:at], word[at + size:]))
    return found


def frames_across(book, text, leading):
    """The list of such triples, for each front the best, in which a word ends at a place of the stretch.

    A frame has no whole word ahead of the stretch or behind it, as without
    this word it would be a shorter one.
    """
    found = []
    backs = {}
    for front, place in fronts(book, text):
        last = cuts_from(leading, place)[-1]
        mask = walked(book.web, all_points(book.web), front + text)
        if (last, mask) not in backs:
            backs[(last, mask)] = best_back(book, text[last:], mask)
        back = backs[(last, mask)]
        if back is not None:
            found.append((len(front) + len(back), front, back))
    return found


def fronts(book, text):
    """The list of pairs (front, place): the rest of a word comes up to this place, or nothing, up to 0."""
    found = [("", 0)]
    for word in book.words:
        for at in range(1, len(word)):
            if text.startswith(word[at:]):
                found.append((word[:at], len(word) - at))
    return found


def best_back(book, rest, mask):
    """The least of the shortest texts that make a word of a rest and go on from a mask, None if there is none."""
    if not mask:
        return None
    if rest == "":
        return ""
    backs = [word[len(rest):] for word in book.words if word.startswith(rest)]
    fitting = [(len(back), back) for back in backs if walked(book.web, mask, back)]
    if not fitting:
        return None
    return min(fitting)[1]


def first_with(book, many):
    """The least of the shortest stretches with so many readings, None if there is none."""
    ask_number(1, MOST_READINGS, many)
    moves = letter_moves(book.web)
    trace = Trace(book.words)
    start = first_state(book.web)
    seen = {start: True}
    level = {start: ""}
    # Each level goes by ascending texts, so the first text that fits is the least one.
    while level:
        found = {}
        for state in level:
            if state[2] == many:
                return level[state]
            for letter, after in read_on(moves, trace, state):
                if after not in seen:
                    seen[after] = True
                    found[after] = level[state] + letter
        level = found
    return None


def told_by(book, text, places):
    """The reading of a stretch that has all of some places as cuts, None if there is none."""
    comings(book, text)
    if not is_row(places) or len(places) == 0:
        raise NoPlaces()
    if not all([is_number(0, len(text), place) for place in places]):
        raise NoPlaces()
    reading = reading_at(book, text, places[0])
    if all([place in reading for place in places]):
        return reading
    return None


def longest_row(book, text):
    """The pair of places between which the longest row of words stands in a stretch, None if no word comes."""
    listed = [(reading[0] - reading[-1], reading[0], reading[-1]) for reading in readings(book, text)]
    rows = [(less, begin, end) for less, begin, end in listed if begin < end]
    if not rows:
        return None
    _, begin, end = min(rows)
    return (begin, end)
