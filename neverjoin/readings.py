"""How a stretch is cut into the words of a book."""

from neverjoin.counting import count_rows
from neverjoin.errors import NoPlace
from neverjoin.kinds import ask_number, is_integer, is_number
from neverjoin.masks import Moves
from neverjoin.webs import end_mask

LONGEST = 200


def comings(book, text):
    """The ascending list of the pairs of places between which words come."""
    end_mask(book.web, text)
    words = {word: True for word in book.words}
    sizes = sorted(set([len(word) for word in book.words]))
    found = []
    for begin in range(len(text)):
        for size in sizes:
            # No word begins another one, so at most one of them comes here.
            if begin + size <= len(text) and text[begin:begin + size] in words:
                found.append((begin, begin + size))
    return found


def cuts_from(leading, place):
    """The tuple of the cuts from a place on, leading being the dict from where words begin to where they end."""
    cuts = [place]
    while cuts[-1] in leading:
        cuts.append(leading[cuts[-1]])
    return tuple(cuts)


def readings(book, text):
    """The ascending list of all readings of a stretch."""
    leading = dict(comings(book, text))
    ended = {end: True for end in leading.values()}
    return [cuts_from(leading, place) for place in range(len(text) + 1) if place not in ended]


def ways(book, text):
    """The number of the readings of a stretch."""
    return len(readings(book, text))


def reading_at(book, text, place):
    """The reading of a stretch that has a place as a cut."""
    listed = readings(book, text)
    if not is_number(0, len(text), place):
        raise NoPlace()
    return [reading for reading in listed if place in reading][0]


def is_reading(book, text, thing):
    """Whether a thing is a reading of a stretch."""
    listed = readings(book, text)
    if not isinstance(thing, tuple) or not all([is_integer(item) for item in thing]):
        return False
    return thing in listed


def words_of(book, text):
    """The tuple of the words of which a stretch is put together, None if it is not."""
    cuts = reading_at(book, text, 0)
    if cuts[-1] != len(text):
        return None
    return tuple([text[begin:end] for begin, end in zip(cuts, cuts[1:])])


def many_rows(book, length):
    """The number of the stretches of a length that are put together of words."""
    ask_number(0, LONGEST, length)
    return count_rows(Moves(book.web, book.words), length)
