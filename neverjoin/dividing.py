"""Full books that are made of other ones, each word being put together of words of the other one."""

from neverjoin.books import wide_book
from neverjoin.carried import LETTERS, first_letters
from neverjoin.errors import NoLetters, NoWeb
from neverjoin.full import ask_full
from neverjoin.listing import listed_books
from neverjoin.readings import words_of


def divided(book, other):
    """The book of which, composed of the other one, the book is made, None if it is not made of the other one."""
    ask_full(book)
    ask_full(other)
    if not book.web == other.web or book.web.points != 1:
        raise NoWeb()
    if len(other.words) > len(LETTERS):
        raise NoLetters()
    rows = rows_made(book, other)
    if rows is None:
        return None
    names = {word: letter for word, letter in zip(other.words, LETTERS)}
    words = ["".join([names[word] for word in row]) for row in rows]
    return wide_book(first_letters(len(other.words)), words)


def rows_made(book, other):
    """The list of the rows of words of the other book that the words of a book are, None if some word is none."""
    found = []
    for word in book.words:
        row = words_of(other, word)
        if row is None:
            return None
        found.append(row)
    return found


def divisors(book):
    """The list of all full books with fewer ways, but more than one, of which a full book is made."""
    many = ask_full(book)
    if book.web.points != 1:
        raise NoWeb()
    found = []
    for number in range(2, many):
        # The ways of a book of which it is made divide its own.
        if many % number == 0:
            found += [other for other in listed_books(book.web, number) if rows_made(book, other) is not None]
    return found
