"""The words of a full book by their readings, and the way to it from the book of all letters."""

from neverjoin.errors import NoAddress, NoNumber, TooMany
from neverjoin.full import ask_full
from neverjoin.inner import MOST_WAYS
from neverjoin.kinds import is_integer
from neverjoin.listing import book_at
from neverjoin.tower import less, more
from neverjoin.tracing import Trace, count_readings


def layers(book):
    """The tuple of the tuples of the words with 1 reading, with 2, and so on to the ways of a full book."""
    many = ask_full(book)
    trace = Trace(book.words)
    found = [[] for _ in range(many)]
    for word in book.words:
        found[count_readings(trace, word) - 1].append(word)
    return tuple([tuple(layer) for layer in found])


def address(book):
    """The tuple of the numbers of the books that lead to a full book, each among more of the one ahead."""
    many = ask_full(book)
    if many > MOST_WAYS:
        raise TooMany(MOST_WAYS)
    books = [book]
    while len(books) < many:
        books.append(less(books[-1]))
    books.reverse()
    return tuple([[above.words for above in more(lower)].index(upper.words) for lower, upper in zip(books, books[1:])])


def book_by(web, address):
    """The full book with an address."""
    if not is_address(address):
        raise NoAddress()
    book = book_at(web, 1, 0)
    for number in address:
        books = more(book)
        if number >= len(books):
            raise NoNumber()
        book = books[number]
    return book


def is_address(thing):
    """Whether a thing is a tuple of few integers, none below 0."""
    if not isinstance(thing, tuple) or len(thing) >= MOST_WAYS:
        return False
    return all([is_integer(number) and number >= 0 for number in thing])
