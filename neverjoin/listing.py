"""All full books of a web with so many ways, and what is chosen of them."""

from neverjoin.books import wide_book
from neverjoin.errors import NoNumber, NoPrices, TooMany
from neverjoin.full import ask_full
from neverjoin.inner import MOST_WAYS
from neverjoin.kinds import ask_number, is_letter, is_number
from neverjoin.rising import MOST_BOOKS, word_lists_above
from neverjoin.tower import ask_few_outer, sorted_books
from neverjoin.webs import letters

HIGHEST_PRICE = 99


def book_of_letters(web):
    """The full book with one way: that of all letters."""
    return wide_book(web, list(letters(web)))


def levels(web, ways):
    """The list of the lists of all full books with 1 to so many ways."""
    ask_number(1, MOST_WAYS, ways)
    found = [[book_of_letters(web)]]
    while len(found) < ways:
        found.append(level_above(found[-1]))
    return found


def level_above(books):
    """The list of all full books with a way more than some, which are all with their ways."""
    for book in books:
        ask_few_outer(book)
    found = []
    for book in books:
        found += [wide_book(book.web, words) for words in word_lists_above(book, MOST_BOOKS - len(found))]
    return found


def all_books(web, ways):
    """The ascending list of all full books of a web with so many ways."""
    return sorted_books(levels(web, ways)[-1])


def many_books(web, ways):
    """The number of all full books of a web with so many ways."""
    return len(all_books(web, ways))


def book_at(web, ways, number):
    """The full book with a number among those with so many ways."""
    books = all_books(web, ways)
    if not is_number(0, len(books) - 1, number):
        raise NoNumber()
    return books[number]


def book_number(book):
    """The number of a full book among those of its web and ways."""
    books = listed_books(book.web, ask_full(book))
    return [other.words for other in books].index(book.words)


def listed_books(web, many):
    """The list of all full books with the ways of one that there is: TooMany if these cannot be listed."""
    if many > MOST_WAYS:
        raise TooMany(MOST_WAYS)
    return all_books(web, many)


def sizes(web, ways):
    """The dict from numbers of words to how many full books with so many ways have so many."""
    found = {}
    for book in all_books(web, ways):
        found[len(book.words)] = found.get(len(book.words), 0) + 1
    return found


def filled(book, ways):
    """The least of the full books with the fewest ways that have all words of a book, None if there is none."""
    for books in levels(book.web, ways):
        holding = [other for other in sorted_books(books) if has_words(other, book.words)]
        if holding:
            return holding[0]
    return None


def has_words(book, words):
    """Whether a book has all of some words."""
    known = {word: True for word in book.words}
    return all([word in known for word in words])


def cheapest(web, ways, prices):
    """The pair of the least price of the full books with so many ways, and the least such book."""
    ask_number(1, MOST_WAYS, ways)
    if not are_prices(web, prices):
        raise NoPrices()
    priced = [(price_of(book, prices), book.words) for book in all_books(web, ways)]
    price, words = min(priced)
    return (price, wide_book(web, words))


def are_prices(web, thing):
    """Whether a thing is a dict from exactly the letters of a web to prices."""
    if not isinstance(thing, dict) or len(thing) != len(web.onward):
        return False
    # Keys of other kinds may be there, so what stands there is asked before it is looked up.
    if not all([is_letter(key) and is_number(0, HIGHEST_PRICE, thing[key]) for key in thing]):
        return False
    return all([key in web.onward for key in thing])


def price_of(book, prices):
    """The price of all letters of all words of a book."""
    return sum([prices[letter] for word in book.words for letter in word])
