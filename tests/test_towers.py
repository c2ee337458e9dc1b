"""Layers and addresses: 7.5."""

import unittest

from neverjoin.books import Book
from neverjoin.inner import inner, made
from neverjoin.listing import all_books
from neverjoin.making import free_web, ring_web
from neverjoin.tower import less, more
from neverjoin.towers import address, book_by, layers
from plain import (
    F, FIFTEEN, FULL, G, JUST, NOT_FULL, R, THREE, TWO, error_of, is_plain_integer, odd_things, plain_ways, stretches_up_to,
)


class Layers(unittest.TestCase):
    def test_against_readings(self):
        for book, many, _ in FULL:
            known = tuple(
                tuple(word for word in book.words if plain_ways(book.words, word) == number + 1) for number in range(many)
            )
            self.assertEqual(layers(book), known)
            self.assertEqual(sorted(word for layer in layers(book) for word in layer), list(book.words))

    def test_ordinary_ones(self):
        self.assertEqual(layers(THREE), ((), ("ab",), tuple(word for word in THREE.words if word != "ab")))
        self.assertEqual(layers(Book(F, ("a", "b"))), (("a", "b"),))
        self.assertEqual(layers(Book(free_web("a"), ("a" * 60,))), ((),) * 59 + (("a" * 60,),))
        self.assertEqual(layers(Book(ring_web("ab"), ("a", "bab"))), (("a",), ("bab",)))
        self.assertEqual(layers(JUST)[32], JUST.words)
        self.assertIs(type(layers(TWO)), tuple)

    def test_books_that_are_not_full(self):
        for book in NOT_FULL:
            self.assertEqual(error_of(layers, book), "NotFull")


class Addresses(unittest.TestCase):
    def test_each_book_has_its_own(self):
        for web, ways in ((F, 4), (G, 4), (R, 6), (free_web("a"), 6), (ring_web("abc"), 4)):
            found = {}
            for book in all_books(web, ways):
                numbers = address(book)
                self.assertEqual((type(numbers), len(numbers)), (tuple, ways - 1))
                self.assertEqual(book_by(web, numbers), book)
                found[numbers] = book
            self.assertEqual(len(found), len(all_books(web, ways)))

    def test_number_by_number(self):
        for book, many, _ in FULL:
            if error_of(address, book) is not None:
                continue
            chain = [book]
            while len(chain) < many:
                chain.insert(0, less(chain[0]))
            known = tuple(more(lower).index(upper) for lower, upper in zip(chain, chain[1:]))
            self.assertEqual(address(book), known)
            self.assertEqual(book_by(book.web, known), book)

    def test_ordinary_ones(self):
        self.assertEqual(address(TWO), (0,))
        self.assertEqual(address(THREE), (0, more(TWO).index(THREE)))
        self.assertEqual(len(address(THREE)), 2)
        self.assertEqual(address(Book(F, ("a", "b"))), ())
        self.assertEqual(book_by(F, ()), Book(F, ("a", "b")))
        self.assertEqual(book_by(F, (0,)), TWO)
        self.assertEqual(address(Book(free_web("a"), ("a" * 6,))), (0,) * 5)
        self.assertEqual(book_by(free_web("a"), (0,) * 5), Book(free_web("a"), ("a" * 6,)))
        self.assertEqual(book_by(FIFTEEN, ()).words, tuple("abcdefghijklmno"))

    def test_errors_of_address(self):
        for book in NOT_FULL:
            self.assertEqual(error_of(address, book), "NotFull")
        self.assertEqual(error_of(address, Book(free_web("a"), ("a" * 7,))), "TooMany 6")
        self.assertEqual(error_of(address, JUST), "TooMany 6")
        self.assertEqual(error_of(address, made(FIFTEEN, (), 2)), "TooMany 14")
        self.assertIsNone(error_of(address, made(FIFTEEN, (), 1)))
        # More of the book itself is not asked for.
        self.assertIsNone(error_of(address, made(F, (), 4)))
        self.assertEqual(error_of(address, Book(F, tuple(text for text in stretches_up_to(F, 5) if len(text) == 5))), "TooMany 14")

    def test_what_is_no_address(self):
        one = free_web("a")
        self.assertIsNone(error_of(book_by, one, (0,) * 5))
        for thing in odd_things() + [(0,) * 6, [0], (0, -1), (0, True), (False,), (0, "0"), (0, None), (0, (0,)), {0: 0}, "0"]:
            if type(thing) is tuple and len(thing) <= 5 and all(is_plain_integer(item) for item in thing):
                continue
            self.assertEqual(error_of(book_by, one, thing), "NoAddress")
            self.assertEqual(error_of(book_by, FIFTEEN, thing), "NoAddress")
        for thing in odd_things():
            if not is_plain_integer(thing) or thing < 0:
                self.assertEqual(error_of(book_by, F, (9, thing)), "NoAddress")

    def test_number_by_number_errors(self):
        self.assertEqual(error_of(book_by, F, (1,)), "NoNumber")
        self.assertEqual(error_of(book_by, F, (10 ** 39,)), "NoNumber")
        self.assertEqual(error_of(book_by, F, (0, 2)), None)
        self.assertEqual(error_of(book_by, F, (0, 3)), "NoNumber")
        self.assertEqual(error_of(book_by, F, (0, 3, 0)), "NoNumber")
        self.assertEqual(error_of(book_by, FIFTEEN, (0,)), "TooMany 14")
        self.assertEqual(error_of(book_by, FIFTEEN, (99999,)), "TooMany 14")
        # The book of all texts of 4 letters has 16 words that are not inner.
        numbers = address(made(F, (), 4))
        self.assertEqual(error_of(book_by, F, numbers + (0,)), "TooMany 14")
        self.assertEqual(error_of(book_by, F, (0, 3) + (0,) * 3), "NoNumber")

    def test_equal_books_answer_alike(self):
        self.assertEqual(address(Book(free_web("ab"), tuple(list(THREE.words)))), address(THREE))
        self.assertEqual(inner(book_by(G, address(made(G, ("b",), 3)))), ("b",))


if __name__ == "__main__":
    unittest.main()
