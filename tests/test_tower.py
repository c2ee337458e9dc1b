"""A way less and a way more: 7.1."""

import unittest
from itertools import combinations

from neverjoin.books import Book
from neverjoin.full import all_ways, is_full
from neverjoin.inner import inner, made
from neverjoin.listing import all_books
from neverjoin.making import free_web, ring_web, rows_web
from neverjoin.tower import less, more
from neverjoin.webs import Web
from plain import (
    EVEN, F, FULL, G, JUST, JUST_ABOVE, NOT_FULL, OVER, OVER_ABOVE, R, THREE, TWO, WEBS, error_of, inner_of, plain_full,
    plain_made, plain_ways, stretches_up_to,
)

LETTERS = "abcdefghijklmnopqrstuvwxyz"


def ring_with(many):
    """A web of so many unlike letters: a ring, the first arrows of which stand beside further ones."""
    arrows = [(place, LETTERS[place], (place + 1) % 12) for place in range(12)]
    return Web(12, tuple(sorted(arrows + [(place, LETTERS[12 + place], place + 1) for place in range(many - 12)])))


def plain_more(book, ways):
    """The words of the full books with a way more, by the sixth fact: all lots of words with the inner ones among them."""
    first = inner_of(book.words)
    others = [word for word in book.words if word not in first]
    found = []
    for many in range(len(others) + 1):
        for lot in combinations(others, many):
            words = plain_made(book.web, tuple(sorted(first + lot)), ways + 1)
            if words is not None:
                found.append(words)
    return sorted(found)


class Less(unittest.TestCase):
    def test_readings_of_all_stretches(self):
        for book, ways, _ in FULL:
            if ways == 1:
                self.assertEqual(error_of(less, book), "OneWay")
                continue
            lower = less(book)
            self.assertEqual(lower.web, book.web)
            self.assertEqual(plain_full(book.web, lower.words), ways - 1)
            for text in stretches_up_to(book.web, 6):
                self.assertEqual(plain_ways(lower.words, text), min(ways - 1, plain_ways(book.words, text)))

    def test_ordinary_ones(self):
        self.assertEqual(less(THREE), TWO)
        self.assertEqual(less(TWO), Book(F, ("a", "b")))
        self.assertEqual(less(Book(ring_web("ab"), ("a", "bab"))), Book(ring_web("ab"), ("a", "b")))
        book = Book(free_web("a"), ("a" * 60,))
        self.assertEqual(less(book).words, ("a" * 59,))
        self.assertEqual(all_ways(less(JUST)), 32)
        self.assertEqual({len(word) for word in less(OVER).words}, {31})

    def test_errors(self):
        for book in NOT_FULL:
            self.assertEqual(error_of(less, book), "NotFull")
        for web in WEBS:
            self.assertEqual(error_of(less, made(web, (), 1)), "OneWay")

    def test_books_of_any_size(self):
        self.assertEqual(less(made(free_web("abcdefghijkl"), (), 4)), made(free_web("abcdefghijkl"), (), 3))
        wide = rows_web(["aab" * 6, "b" * 20, "ab" * 10])
        self.assertEqual(less(made(wide, ("aab",), 5)), made(wide, ("aab",), 4))


class More(unittest.TestCase):
    def test_against_all_lots(self):
        for book, ways, _ in FULL:
            if len(book.words) - len(inner_of(book.words)) > 5:
                continue
            books = more(book)
            self.assertEqual([above.words for above in books], plain_more(book, ways))
            self.assertTrue(all(above.web == book.web for above in books))

    def test_each_is_full_and_leads_back(self):
        many = 0
        for book, ways, _ in FULL:
            if len(book.words) - len(inner_of(book.words)) > 9:
                continue
            books = more(book)
            self.assertEqual([above.words for above in books], sorted({above.words for above in books}))
            for above in books[::7]:
                many += 1
                self.assertEqual(all_ways(above), ways + 1)
                self.assertEqual(less(above), book)
                self.assertLessEqual(set(inner_of(book.words)), set(inner(above)))
                self.assertLessEqual(set(inner(above)), set(book.words))
        self.assertGreater(many, 200)

    def test_ordinary_ones(self):
        self.assertEqual(len(more(TWO)), 3)
        self.assertIn(THREE, more(TWO))
        self.assertEqual(more(Book(F, ("a", "b"))), [TWO])
        # All texts of two letters have 73 full books with 4 ways.
        self.assertEqual([len(more(book)) for book in more(TWO)], [39, 17, 17])
        self.assertEqual(more(Book(free_web("a"), ("a" * 60,)))[0].words, ("a" * 61,))
        self.assertEqual([book.words for book in more(Book(ring_web("ab"), ("a", "b")))], [("a", "bab"), ("ab", "ba"), ("aba", "b")])
        self.assertEqual(len(more(made(EVEN, (), 2))), 4)

    def test_words_that_are_not_inner(self):
        book = made(ring_with(14), (), 1)
        self.assertEqual(len(book.words), 14)
        # Of 10 places with one letter and 2 with two of them one place has to be left out.
        self.assertEqual(len(more(book)), 2 ** 14 - 3 * 3)
        self.assertEqual(error_of(more, made(ring_with(15), (), 1)), "TooMany 14")
        self.assertEqual(error_of(more, made(F, (), 4)), "TooMany 14")
        # Inner words do not count.
        fifteen = [book for book in all_books(EVEN, 4) if len(book.words) > 14]
        few = [book for book in fifteen if len(book.words) - len(inner(book)) <= 14]
        for book in fifteen:
            self.assertEqual(error_of(more, book), None if book in few else "TooMany 14")
        self.assertTrue(few)

    def test_stretches_within(self):
        def within(book):
            return {word[begin:end] for word in book.words for begin in range(1, len(word)) for end in range(begin, len(word))}

        first = made(JUST_ABOVE, (), 1)
        books = more(first)
        self.assertEqual(max(len(within(book)) for book in books), 2000)
        self.assertTrue(all(is_full(book) for book in books))
        self.assertEqual(error_of(more, made(OVER_ABOVE, (), 1)), "TooMany 2000")

    def test_errors_in_order(self):
        for book in NOT_FULL:
            self.assertEqual(error_of(more, book), "NotFull")
        # More than 14 words, and more than 2000 stretches within.
        self.assertEqual(error_of(more, made(free_web("abcdefghijkl"), (), 4)), "TooMany 14")
        nine = Book(F, tuple(text for text in stretches_up_to(F, 8) if len(text) == 8)[1:])
        self.assertEqual(error_of(more, nine), "NotFull")

    def test_lists_are_new(self):
        first = more(TWO)
        first.append(0)
        self.assertEqual(more(TWO), first[:-1])
        self.assertEqual(more(Book(free_web("ab"), tuple(list(TWO.words)))), more(TWO))
        self.assertEqual(more(Book(R, ("a", "b"))), more(Book(ring_web("aab"), ("a", "b"))))
        self.assertEqual(more(made(G, (), 1)), [made(G, (), 2), made(G, ("b",), 2)])


if __name__ == "__main__":
    unittest.main()
