"""Books: webs with words of which none begins or ends another one."""

from neverjoin.errors import BadBook, NoTexts
from neverjoin.kinds import are_ascending, is_long_text, is_row, is_text
from neverjoin.webs import is_stretch

MOST_WORDS = 400
LONGEST_WORD = 60


class Book:
    """A web and its words."""

    def __init__(self, web, words):
        part = wrong_part(web, words)
        if part is not None:
            raise BadBook(part)
        self.web = web
        self.words = words

    def __eq__(self, other):
        return isinstance(other, Book) and self.web == other.web and self.words == other.words


def wide_book(web, words):
    """A book of any size; who makes it sees to it that the rest is right."""
    book = Book(web, ())
    book.words = tuple(sorted(words))
    return book


def wrong_part(web, words):
    """The part that BadBook tells of words, None if they are the words of a book."""
    if not are_words(words):
        return "words"
    if not all([is_stretch(web, word) for word in words]):
        return "stretch"
    if least_clash(words) is not None:
        return "clash"
    return None


def are_words(thing):
    """Whether a thing is a strictly ascending tuple of texts, none empty, neither of them nor it too long."""
    if not isinstance(thing, tuple) or len(thing) > MOST_WORDS:
        return False
    return all([is_long_text(1, LONGEST_WORD, item) for item in thing]) and are_ascending(thing)


def clash(texts):
    """The least pair of unlike texts of which one begins or ends the other one, None if there is none."""
    if not is_row(texts) or not all([is_text(item) and item != "" for item in texts]):
        raise NoTexts()
    return least_clash(texts)


def least_clash(texts):
    """The clash of what is known to be texts."""
    listed = sorted(set(texts))
    beginning = beginning_texts(listed)
    ending = beginning_texts(sorted([text[::-1] for text in listed]))
    clashing = [text for text in listed if text in beginning or text[::-1] in ending]
    if not clashing:
        return None
    one = clashing[0]
    others = [text for text in listed if text != one and (text.startswith(one) or text.endswith(one))]
    return (one, others[0])


def beginning_texts(listed):
    """The dict of True for those of some unlike ascending texts that begin another one of them."""
    # The texts that one begins stand together just behind it.
    return {one: True for one, other in zip(listed, listed[1:]) if other.startswith(one)}
