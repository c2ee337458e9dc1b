"""Full books with a way less and with a way more."""

from neverjoin.books import wide_book
from neverjoin.errors import OneWay, TooMany
from neverjoin.full import ask_full
from neverjoin.inner import cut_words, inner
from neverjoin.rising import word_lists_above

MOST_OUTER = 14
# So many words can be kept or left out in no more ways than this.
MOST_ABOVE = 16384


def less(book):
    """The full book with a way less in which each stretch has as many readings as here, but at most so many."""
    many = ask_full(book)
    if many == 1:
        raise OneWay()
    return wide_book(book.web, cut_words(book.web, book.words, many - 1))


def ask_few_outer(book):
    """Raise TooMany if too many words of a book are not inner."""
    if len(book.words) - len(inner(book)) > MOST_OUTER:
        raise TooMany(MOST_OUTER)


def sorted_books(books):
    """The list of some books, ascending by their words."""
    return sorted(books, key=lambda book: book.words)


def more(book):
    """The ascending list of all full books with a way more of which a full book is the less."""
    ask_full(book)
    ask_few_outer(book)
    return sorted_books([wide_book(book.web, words) for words in word_lists_above(book, MOST_ABOVE)])
