"""Books carried over: cut down to webs within webs, turned, renamed, and put together of books."""

from neverjoin.books import wide_book
from neverjoin.errors import NoLetters, NoWeb, TooMany
from neverjoin.full import ask_full
from neverjoin.likeness import lies_in
from neverjoin.making import renamed, turned
from neverjoin.webs import Web, is_stretch

LETTERS = "abcdefghijklmnopqrstuvwxyz"
MOST_COMPOSED = 2000


def cut_down(book, web):
    """The book of those words of a full book that are stretches of a web within its web."""
    ask_full(book)
    if not lies_in(web, book.web):
        raise NoWeb()
    return wide_book(web, [word for word in book.words if is_stretch(web, word)])


def turned_book(book):
    """The book of the turned web whose words are the words read from behind."""
    return wide_book(turned(book.web), [word[::-1] for word in book.words])


def renamed_book(book, names):
    """The book of the renamed web."""
    return wide_book(renamed(book.web, names), [replaced(word, names) for word in book.words])


def replaced(word, texts):
    """What is put together of the texts that stand for the letters of a word."""
    return "".join([texts[letter] for letter in word])


def first_letters(many):
    """The web of all texts over the first so many letters, at most 26."""
    return Web(1, tuple([(0, letter, 0) for letter in LETTERS[:many]]))


def composed(book, other):
    """The book whose words are those of the other one, each letter being a word of the book."""
    ask_full(book)
    ask_full(other)
    if book.web.points != 1:
        raise NoWeb()
    if len(book.words) > len(LETTERS) or not other.web == first_letters(len(book.words)):
        raise NoLetters()
    if len(other.words) > MOST_COMPOSED:
        raise TooMany(MOST_COMPOSED)
    texts = {letter: word for letter, word in zip(LETTERS, book.words)}
    return wide_book(book.web, [replaced(word, texts) for word in other.words])
