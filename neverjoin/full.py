"""Full books, and what shows that a book is not full: texts that can be put in, texts with many readings."""

from neverjoin.books import LONGEST_WORD, MOST_WORDS, least_clash, wide_book
from neverjoin.errors import NotFull, NoTexts
from neverjoin.graphs import shortest_row
from neverjoin.kinds import ask_number, is_integer, is_long_text, is_row
from neverjoin.making import turned
from neverjoin.masks import all_points, begun, letter_moves, points_of, walked
from neverjoin.readings import ways
from neverjoin.tracing import Trace
from neverjoin.webs import arrows_from, is_stretch

MOST_READINGS = 100


def missing_beginning(web, words):
    """A stretch that begins no word and that no word begins, None if there is none."""
    moves = letter_moves(web)
    trace = Trace(words)
    level = [("", all_points(web))]
    while level:
        longer = []
        for head, mask in level:
            for letter, after in moves.listed(mask):
                text = head + letter
                if text in trace.heads:
                    longer.append((text, after))
                elif text not in trace.words:
                    return text
        level = longer
    return None


def missing_ending(web, words):
    """A stretch that ends no word and that no word ends, None if there is none."""
    text = missing_beginning(turned(web), [word[::-1] for word in words])
    if text is None:
        return None
    return text[::-1]


def joined_text(web, first, last):
    """A stretch that begins with one stretch, and behind it ends with another one."""
    starts = points_of(walked(web, all_points(web), first))
    between = shortest_row(arrows_from(web), starts, points_of(begun(web, last)))
    return first + "".join(between) + last


def is_full(book):
    """Whether each endless text is cut in the same number of ways, each of its places in just one of them.

    If a word begins at each place of each text, readings do not become more
    to the front without end; a missing ending, coming over and over, would
    make them more. So the beginnings alone tell it.
    """
    return missing_beginning(book.web, book.words) is None


def all_ways(book):
    """The number of ways of a full book, None if it is not full."""
    if not is_full(book):
        return None
    return ways(book, long_text(book.web, len(max(book.words, key=len))))


def long_text(web, length):
    """A stretch of a length."""
    moves = letter_moves(web)
    mask = all_points(web)
    text = ""
    for _ in range(length):
        letter, mask = moves.listed(mask)[0]
        text += letter
    return text


def ask_full(book):
    """The number of ways of a full book: NotFull if it is not full."""
    many = all_ways(book)
    if many is None:
        raise NotFull()
    return many


def addable(book):
    """A stretch that can be put into a book as a word, None if there is none."""
    beginning = missing_beginning(book.web, book.words)
    if beginning is None:
        return None
    return joined_text(book.web, beginning, missing_ending(book.web, book.words))


def is_addable(book, thing):
    """Whether a thing can be put into a book as a word."""
    if not is_stretch(book.web, thing) or thing == "":
        return False
    return not any([clashes(word, thing) for word in book.words])


def clashes(one, other):
    """Whether one of two texts begins or ends the other one, or they are the same."""
    if len(one) > len(other):
        return one.startswith(other) or one.endswith(other)
    return other.startswith(one) or other.endswith(one)


def loose(book, many):
    """A stretch with more than so many readings, None if the book is full."""
    ask_number(0, MOST_READINGS, many)
    ending = missing_ending(book.web, book.words)
    if ending is None:
        return None
    # Where it ends, no word ends, so each time one more reading begins.
    start = points_of(begun(book.web, ending))[0]
    behind = points_of(walked(book.web, 1 << start, ending))
    between = shortest_row(arrows_from(book.web), behind, (start,))
    return (ending + "".join(between)) * many + ending


def is_loose(book, many, thing):
    """Whether a thing is a stretch with more than so many readings."""
    ask_number(0, MOST_READINGS, many)
    return is_stretch(book.web, thing) and ways(book, thing) > many


def misfit(web, texts):
    """The first reason why some things are not the words of a full book, None if they are."""
    if not is_row(texts) or len(texts) > MOST_WORDS:
        raise NoTexts()
    index = first_no_word(web, texts)
    if index is not None:
        return ("word", index)
    pair = least_clash(texts)
    if pair is not None:
        return ("clash", pair[0], pair[1])
    room = addable(wide_book(web, texts))
    if room is not None:
        return ("room", room)
    return None


def first_no_word(web, texts):
    """The index of the first item that is no stretch of a word's length, or stands there already, None if none is."""
    seen = {}
    for index, item in enumerate(texts):
        if not is_long_text(1, LONGEST_WORD, item) or item in seen or not is_stretch(web, item):
            return index
        seen[item] = True
    return None


def is_misfit(web, texts, thing):
    """Whether a thing is such a reason, or None where there is none."""
    reason = misfit(web, texts)
    if reason is None:
        return thing is None
    if not isinstance(thing, tuple) or len(thing) != len(reason) or thing[0] != reason[0]:
        return False
    if reason[0] == "room":
        return is_addable(wide_book(web, texts), thing[1])
    if reason[0] == "word":
        # A flag is no index, though it may equal one.
        return is_integer(thing[1]) and thing[1] == reason[1]
    return thing == reason
