"""What shows strangers who name cuts that they can be wrong, and how far an unlike letter reaches."""

from neverjoin.errors import NoPlace, NoRow, NotNear
from neverjoin.kinds import is_integer, is_number, is_row
from neverjoin.readings import readings, words_of


def fooled(book, text, guess):
    """A reading of a stretch in which the place that is guessed is no cut, None if it has one reading."""
    listed = readings(book, text)
    place = guess(text)
    if not is_number(0, len(text), place):
        raise NoPlace()
    others = [reading for reading in listed if place not in reading]
    if not others:
        return None
    return others[0]


def sure_cuts(book, text):
    """The ascending tuple of the places that are cuts in all readings of a stretch."""
    listed = readings(book, text)
    # Each place is a cut of just one reading.
    if len(listed) > 1:
        return ()
    return listed[0]


def is_all_readings(book, text, thing):
    """Whether a thing is a list or tuple of all readings of a stretch, each once."""
    listed = readings(book, text)
    if not is_row(thing) or not all([are_places(item) for item in thing]):
        return False
    return sorted(thing) == listed


def are_places(thing):
    """Whether a thing is a tuple of integers."""
    return isinstance(thing, tuple) and all([is_integer(item) for item in thing])


def lost(book, text, other):
    """The pair of the places between which the cuts of a row of words are not found by one with an unlike letter."""
    row = words_of(book, text)
    further = words_of(book, other)
    if row is None or further is None:
        raise NoRow()
    if len(text) != len(other) or many_unlike(text, other) != 1:
        raise NotNear()
    return (shared_letters(row, further), len(text) - shared_letters(row[::-1], further[::-1]))


def many_unlike(text, other):
    """At how many places the letters of two texts of a length are unlike."""
    return len([place for place in range(len(text)) if text[place] != other[place]])


def shared_letters(row, other):
    """The letters of the words, from the first one on, that two rows of words share."""
    size = 0
    for one, word in zip(row, other):
        if one != word:
            return size
        size += len(one)
    return size
