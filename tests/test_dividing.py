"""Books made of other ones: 9.2."""

import unittest

from neverjoin.books import Book
from neverjoin.carried import composed
from neverjoin.dividing import divided, divisors
from neverjoin.full import all_ways, is_full
from neverjoin.inner import made
from neverjoin.listing import all_books
from neverjoin.making import free_web, ring_web
from neverjoin.tower import more
from neverjoin.webs import Web
from plain import F, FULL, G, NOT_FULL, R, THREE, TWO, error_of, split_up

LETTERS = "abcdefghijklmnopqrstuvwxyz"
ABC = free_web("abc")
ONE = free_web("a")
BY_WAYS = {ways: all_books(F, ways) for ways in (1, 2, 3, 4)}


def one_point(many):
    """The web of all texts over the first so many letters."""
    return Web(1, tuple((0, letter, 0) for letter in LETTERS[:many]))


def is_made_of(book, other):
    """Whether each word of a book is put together of words of the other one, each split up by itself."""
    return all(split_up(other.words, word) for word in book.words)


def plain_divided(book, other):
    """The words of what is divided; None if a word of the book cannot be split up."""
    if not is_made_of(book, other):
        return None
    rows = [split_up(other.words, word)[0] for word in book.words]
    return tuple(sorted("".join(LETTERS[other.words.index(part)] for part in row) for row in rows))


def even_books():
    """Full books with 4 and 6 ways that are made of smaller ones, and some that are not."""
    found = [composed(TWO, other) for ways in (1, 2) for other in all_books(free_web("abcd"), ways)]
    found += [composed(TWO, made(free_web("abcd"), lot, 3)) for lot in ((), ("ab",), ("ca", "db"))]
    found += [composed(book, made(one_point(len(book.words)), (), 2)) for book in BY_WAYS[3]]
    return found + BY_WAYS[4] + BY_WAYS[3] + BY_WAYS[2] + BY_WAYS[1]


EVEN_BOOKS = even_books()


class Divided(unittest.TestCase):
    def test_against_words_split_up(self):
        there = 0
        for book in EVEN_BOOKS:
            for other in BY_WAYS[1] + BY_WAYS[2] + BY_WAYS[3] + BY_WAYS[4][::9]:
                if len(other.words) > 26:
                    self.assertEqual(error_of(divided, book, other), "NoLetters")
                    continue
                words = plain_divided(book, other)
                found = divided(book, other)
                if words is None:
                    self.assertIsNone(found)
                    continue
                there += 1
                self.assertEqual((found.web, found.words), (one_point(len(other.words)), words))
                self.assertEqual(composed(other, found), book)
                # The eleventh fact.
                self.assertEqual(all_ways(found) * all_ways(other), all_ways(book))
        self.assertGreater(there, 100)

    def test_what_was_composed(self):
        for book in BY_WAYS[1] + BY_WAYS[2] + BY_WAYS[3]:
            web = one_point(len(book.words))
            for other in more(made(web, (), 1)) + [made(web, (), 1)]:
                self.assertEqual(divided(composed(book, other), book), other)

    def test_ordinary_ones(self):
        self.assertEqual(divided(TWO, TWO), made(free_web("abcd"), (), 1))
        self.assertEqual(divided(THREE, Book(F, ("a", "b"))), THREE)
        self.assertIsNone(divided(THREE, TWO))
        self.assertIsNone(divided(TWO, THREE))
        self.assertEqual(divided(made(F, (), 6), TWO).words, made(free_web("abcd"), (), 3).words)
        self.assertEqual(divided(Book(ONE, ("a" * 6,)), Book(ONE, ("aa",))), Book(ONE, ("aaa",)))
        self.assertIsNone(divided(Book(ONE, ("a" * 6,)), Book(ONE, ("a" * 4,))))
        web = free_web("xz")
        self.assertEqual(divided(made(web, (), 2), made(web, (), 1)), TWO)

    def test_books_of_26_words_and_of_27(self):
        book = [one for one in BY_WAYS[4] if len(one.words) == 26][0]
        self.assertEqual(divided(book, book), made(one_point(26), (), 1))
        whole = made(one_point(26), (), 2)
        self.assertEqual(divided(composed(book, whole), book), whole)
        self.assertIsNone(divided(TWO, book))
        self.assertIsNone(divided(THREE, book))
        for many, other in ((27, [one for one in BY_WAYS[4] if len(one.words) == 27][0]), (27, made(ABC, (), 3))):
            self.assertEqual(len(other.words), many)
            self.assertEqual(error_of(divided, other, other), "NoLetters")
            self.assertEqual(error_of(divided, made(other.web, (), 1), other), "NoLetters")
        letters = made(one_point(26), (), 1)
        self.assertEqual(divided(letters, letters), letters)
        self.assertEqual(error_of(divided, letters, whole), "NoLetters")
        self.assertEqual(divided(whole, letters), whole)

    def test_books_of_any_size(self):
        twelve = free_web("abcdefghijkl")
        book = made(twelve, (), 4)
        self.assertEqual(divided(book, made(twelve, (), 1)), book)
        self.assertEqual(error_of(divided, book, made(twelve, (), 2)), "NoLetters")
        long_one = composed(Book(ONE, ("a" * 60,)), Book(ONE, ("a" * 60,)))
        self.assertEqual(divided(long_one, Book(ONE, ("a" * 30,))).words, ("a" * 120,))

    def test_errors_in_order(self):
        for book in NOT_FULL:
            for other in NOT_FULL + [TWO, made(R, (), 2)]:
                self.assertEqual(error_of(divided, book, other), "NotFull")
                self.assertEqual(error_of(divided, other, book), "NotFull")
        ring = made(R, (), 2)
        self.assertEqual(error_of(divided, ring, ring), "NoWeb")
        self.assertEqual(error_of(divided, made(G, (), 2), made(G, (), 1)), "NoWeb")
        self.assertEqual(error_of(divided, TWO, made(ABC, (), 1)), "NoWeb")
        self.assertEqual(error_of(divided, made(ABC, (), 3), TWO), "NoWeb")
        self.assertEqual(error_of(divided, TWO, made(ABC, (), 3)), "NoWeb")
        twice = Web(2, ((0, "a", 1), (0, "b", 1), (1, "a", 0), (1, "b", 0)))
        self.assertEqual(error_of(divided, TWO, made(twice, (), 1)), "NoWeb")
        self.assertEqual(error_of(divided, made(twice, (), 2), made(twice, (), 1)), "NoWeb")


class Divisors(unittest.TestCase):
    def test_against_all_books(self):
        there = 0
        for book in EVEN_BOOKS:
            ways = all_ways(book)
            if ways > 8:
                continue
            known = [other for number in (2, 3, 4) if number < ways for other in BY_WAYS[number] if is_made_of(book, other)]
            self.assertEqual(divisors(book), known)
            # The eleventh fact.
            self.assertTrue(all(ways % all_ways(other) == 0 and is_full(divided(book, other)) for other in known))
            there += len(known)
        self.assertGreaterEqual(there, 10)

    def test_against_all_books_of_one_letter(self):
        for ways in range(1, 13):
            book = Book(ONE, ("a" * ways,))
            known = [Book(ONE, ("a" * number,)) for number in range(2, ways) if ways % number == 0]
            self.assertEqual(divisors(book), known)

    def test_ordinary_ones(self):
        self.assertEqual(divisors(made(F, (), 4)), [TWO])
        self.assertEqual(divisors(TWO), [])
        self.assertEqual(divisors(Book(F, ("a", "b"))), [])
        self.assertEqual(divisors(THREE), [])
        self.assertEqual(divisors(made(F, (), 6)), [TWO, made(F, (), 3)])
        self.assertEqual(divisors(composed(THREE, made(one_point(9), (), 2))), [THREE])
        self.assertEqual(divisors(made(F, ("ab",), 4)), [])
        self.assertEqual(divisors(made(ABC, (), 4)), [made(ABC, (), 2)])

    def test_those_of_fewer_ways_stand_first(self):
        found = divisors(composed(TWO, made(free_web("abcd"), (), 4)))
        self.assertEqual(found, [TWO, made(F, (), 4)])
        found = divisors(made_of_one(12))
        self.assertEqual([all_ways(book) for book in found], [2, 3, 4, 6])

    def test_ways_that_are_too_many(self):
        for ways in (14, 16, 21, 49, 60):
            self.assertEqual(error_of(divisors, made_of_one(ways)), "TooMany 6")
        # No number divides these, so nothing is asked.
        for ways in (7, 11, 13, 59):
            self.assertEqual(divisors(made_of_one(ways)), [])
        self.assertEqual([all_ways(book) for book in divisors(made_of_one(25))], [5])
        self.assertEqual(error_of(divisors, composed(made_of_one(60), made_of_one(60))), "TooMany 6")

    def test_books_that_are_too_many(self):
        # With 5 ways of two letters there are books below with more than 14 words that are not inner ones.
        ten = composed(TWO, made(free_web("abcd"), (), 5))
        self.assertEqual(all_ways(ten), 10)
        self.assertEqual(error_of(divisors, ten), "TooMany 14")
        # With 4 ways of three letters likewise, but not with 2 and 3.
        nine = one_point(9)
        self.assertEqual(divisors(composed(made(ABC, (), 2), made(nine, (), 3))), [made(ABC, (), 2), made(ABC, (), 3)])
        self.assertEqual(divisors(composed(made(ABC, (), 2), made(nine, (), 2))), [made(ABC, (), 2)])
        # Of 15 letters already those with 2 ways are too many.
        self.assertEqual(error_of(divisors, made(one_point(15), (), 4)), "TooMany 14")
        self.assertEqual(divisors(made(one_point(15), (), 3)), [])
        self.assertEqual(divisors(made(one_point(14), (), 4)), [made(one_point(14), (), 2)])

    def test_errors_in_order(self):
        for book in NOT_FULL:
            self.assertEqual(error_of(divisors, book), "NotFull")
        for book, _, _ in FULL:
            if book.web.points > 1:
                self.assertEqual(error_of(divisors, book), "NoWeb")
        self.assertEqual(error_of(divisors, Book(ring_web("abc"), ("abcabc", "bcabca", "cabcab"))), "NoWeb")

    def test_lists_are_new(self):
        first = divisors(made(F, (), 4))
        first.append(0)
        self.assertEqual(divisors(made(free_web("ab"), (), 4)), [TWO])


def made_of_one(ways):
    """The full book with so many ways of a single letter."""
    return Book(ONE, ("a" * ways,))


if __name__ == "__main__":
    unittest.main()
