"""Stretches with few readings: 4.4."""

import unittest
from collections import Counter

from neverjoin.books import Book
from neverjoin.full import all_ways
from neverjoin.inner import made
from neverjoin.making import free_web, ring_web
from neverjoin.thin import settling, thin, ways_counts
from plain import (
    BOOKS, F, FULL, G, JUST, NOT_FULL, OVER, R, THREE, TWO, all_texts, error_of, is_plain_integer, odd_things, plain_ways,
    stretches_up_to, walk_texts,
)


class Thin(unittest.TestCase):
    def test_against_a_list(self):
        for book, many, _ in FULL:
            size = max(len(word) for word in book.words)
            known = [text for text in stretches_up_to(book.web, size) if plain_ways(book.words, text) < many]
            self.assertEqual(thin(book), known)
            self.assertIs(type(thin(book)), list)
            self.assertEqual(settling(book), max([len(text) + 1 for text in known], default=0))

    def test_ordinary_ones(self):
        self.assertEqual(thin(TWO), [""])
        self.assertEqual(thin(THREE), ["", "a", "b", "ab"])
        self.assertEqual((settling(TWO), settling(THREE)), (1, 3))
        self.assertEqual(thin(Book(F, ("a", "b"))), [])
        self.assertEqual(settling(Book(F, ("a", "b"))), 0)
        self.assertEqual(thin(Book(ring_web("ab"), ("ab", "ba"))), [""])
        self.assertEqual(thin(Book(ring_web("ab"), ("a", "bab"))), ["", "a"])
        self.assertEqual(thin(Book(free_web("a"), ("aaaa",))), ["", "a", "aa"])

    def test_most(self):
        self.assertEqual(all_ways(JUST), 33)
        self.assertEqual(len(thin(JUST)), 2000)
        self.assertEqual(thin(JUST), stretches_up_to(JUST.web, 31))
        self.assertEqual(settling(JUST), 32)
        self.assertEqual(all_ways(OVER), 32)
        self.assertEqual(len(stretches_up_to(OVER.web, 30)), 2001)
        self.assertEqual(error_of(thin, OVER), "TooMany 2000")
        self.assertEqual(error_of(settling, OVER), "TooMany 2000")

    def test_books_of_any_size(self):
        book = made(free_web("abcdefghijkl"), (), 4)
        self.assertEqual((len(thin(book)), settling(book)), (157, 3))
        many = Book(free_web("a"), ("a" * 60,))
        self.assertEqual((len(thin(many)), settling(many)), (59, 59))

    def test_books_that_are_not_full(self):
        for book in NOT_FULL:
            self.assertEqual(error_of(thin, book), "NotFull")
            self.assertEqual(error_of(settling, book), "NotFull")

    def test_lists_are_new(self):
        first = thin(THREE)
        first.append("a")
        self.assertEqual(thin(THREE), ["", "a", "b", "ab"])
        self.assertEqual(thin(Book(free_web("ab"), tuple(list(THREE.words)))), thin(THREE))


class Counts(unittest.TestCase):
    def test_against_a_list(self):
        for book in BOOKS + [book for book, _, _ in FULL]:
            for size in range(7 if book.web.points < 3 else 5):
                known = Counter(plain_ways(book.words, text) for text in walk_texts(book.web, size))
                self.assertEqual(ways_counts(book, size), dict(known))
                self.assertIs(type(ways_counts(book, size)), dict)

    def test_bounds(self):
        self.assertEqual(ways_counts(TWO, 0), {1: 1})
        self.assertEqual(ways_counts(TWO, 60), {2: 2 ** 60})
        self.assertEqual(ways_counts(THREE, 2), {2: 1, 3: 3})
        self.assertEqual(ways_counts(Book(F, ()), 60), {61: 2 ** 60})
        self.assertEqual(ways_counts(Book(free_web("a"), ("a",)), 60), {1: 1})
        self.assertEqual(ways_counts(Book(R, ()), 60), {61: 3})
        self.assertEqual(sum(ways_counts(Book(G, ("ab",)), 60).values()), 4052739537881)
        # Stretches with just so many letters b have so many readings and one more.
        self.assertEqual(ways_counts(Book(F, ("a",)), 3), {1: 1, 2: 3, 3: 3, 4: 1})
        nine = tuple(all_texts("ab", 9)[:400])
        self.assertEqual(sum(ways_counts(Book(F, nine), 60).values()), 2 ** 60)
        for thing in [-1, 61, 10 ** 39] + [thing for thing in odd_things() if not is_plain_integer(thing)]:
            self.assertEqual(error_of(ways_counts, TWO, thing), "NoNumber")
            self.assertEqual(error_of(ways_counts, Book(F, ()), thing), "NoNumber")

    def test_dicts_are_new(self):
        first = ways_counts(TWO, 3)
        first[0] = 5
        self.assertEqual(ways_counts(TWO, 3), {2: 8})


if __name__ == "__main__":
    unittest.main()
