"""All full books of a web: 7.2 to 7.4."""

import unittest
from collections import Counter

from neverjoin.books import Book
from neverjoin.full import all_ways, is_full
from neverjoin.inner import inner, made
from neverjoin.listing import all_books, book_at, book_number, cheapest, filled, many_books, sizes
from neverjoin.making import free_web, ring_web, rows_web
from neverjoin.tower import less, more
from neverjoin.webs import Web
from plain import (
    BOOKS, EVEN, F, FIFTEEN, FORK, FULL, G, JUST_ABOVE, NOT_FULL, OVER_ABOVE, R, THREE, TWO, WEBS, clash_free, error_of,
    is_plain_integer, odd_things, plain_made, stretches_up_to,
)

# Rings through one point: with a further way of a lot of letters goes on just if it goes on in each ring by itself, so
# there are 16 times 5 times 5 times 5 lots, and 32 times 7 times 9.
BLOCKS = Web(5, tuple(sorted(
    [(0, "a", 0), (1, "a", 0)] + [(0, letter, 1) for letter in "bcde"]
    + [(0, "f", 2), (0, "g", 2), (2, "h", 0), (0, "i", 3), (0, "j", 3), (3, "k", 0), (0, "l", 4), (0, "m", 4), (4, "n", 0)]
)))
MORE_BLOCKS = Web(4, tuple(sorted(
    [(0, "a", 0), (1, "a", 0)] + [(0, letter, 1) for letter in "bcdef"]
    + [(0, "g", 2), (0, "h", 2), (2, "i", 0), (2, "j", 0), (0, "k", 3), (0, "l", 3), (0, "m", 3), (3, "n", 0)]
)))
SMALL = [F, G, R, EVEN, FORK, free_web("a"), ring_web("ab"), ring_web("abc"), ring_web("aabb"), free_web("abc")]
FUNCTIONS = (all_books, many_books, sizes)


def lots_of(web, longest):
    """All lots of a web with words of few letters."""
    found = [()]
    for text in stretches_up_to(web, longest):
        if text:
            found += [lot + (text,) for lot in found if clash_free(lot + (text,))]
    return [tuple(sorted(lot)) for lot in found]


class Listing(unittest.TestCase):
    def test_against_all_lots_of_short_words(self):
        # No inner word has more letters than this.
        for web, ways, longest in ((F, 1, 2), (F, 2, 2), (F, 3, 3), (G, 1, 2), (G, 2, 3), (G, 3, 4), (R, 2, 4), (EVEN, 2, 3), (EVEN, 3, 3), (FORK, 2, 3)):
            known = [plain_made(web, lot, ways) for lot in lots_of(web, longest)]
            self.assertEqual([book.words for book in all_books(web, ways)], sorted(words for words in known if words is not None))

    def test_numbers(self):
        self.assertEqual([many_books(F, ways) for ways in (1, 2, 3, 4)], [1, 1, 3, 73])
        self.assertEqual([many_books(G, ways) for ways in (1, 2, 3, 4)], [1, 2, 4, 20])
        self.assertEqual([many_books(free_web("a"), ways) for ways in range(1, 7)], [1] * 6)
        for size in range(1, 7):
            for ways in range(1, 7):
                many = ways ** size - (ways - 1) ** size
                if many > 2000:
                    self.assertEqual(error_of(many_books, ring_web("abcdef"[:size]), ways), "TooMany 2000")
                    break
                self.assertEqual(many_books(ring_web("abcdef"[:size]), ways), many)

    def test_books(self):
        for web in SMALL:
            for ways in (1, 2, 3):
                books = all_books(web, ways)
                words = [book.words for book in books]
                self.assertEqual(words, sorted(set(words)))
                self.assertEqual(many_books(web, ways), len(books))
                self.assertEqual(sizes(web, ways), dict(Counter(len(listed) for listed in words)))
                for number, book in enumerate(books):
                    self.assertEqual((book.web, all_ways(book)), (web, ways))
                    self.assertEqual(made(web, inner(book), ways), book)
                    if number % 5 == 0:
                        self.assertEqual(book_number(book), number)
                        self.assertEqual(book_at(web, ways, number), book)

    def test_each_is_more_of_one(self):
        for web in SMALL[:-1]:
            for ways in (1, 2):
                above = [book.words for lower in all_books(web, ways) for book in more(lower)]
                self.assertEqual(sorted(above), [book.words for book in all_books(web, ways + 1)])
            for book in all_books(web, 3)[::6]:
                self.assertIn(less(book), all_books(web, 2))

    def test_drawn_books_are_listed(self):
        for book, ways, _ in FULL:
            if error_of(all_books, book.web, ways) is None:
                self.assertIn(book, all_books(book.web, ways))
                self.assertEqual(book_at(book.web, ways, book_number(book)), book)

    def test_sizes(self):
        self.assertEqual(sizes(F, 1), {2: 1})
        self.assertEqual(sizes(F, 3), {8: 1, 9: 2})
        self.assertEqual(sum(sizes(F, 4).values()), 73)
        self.assertEqual(min(sizes(F, 4)), 16)
        self.assertEqual(sizes(free_web("a"), 6), {1: 1})
        self.assertIs(type(sizes(G, 2)), dict)

    def test_numbers_of_books(self):
        self.assertEqual(book_at(F, 3, 0), all_books(F, 3)[0])
        self.assertEqual(book_at(F, 3, 2), all_books(F, 3)[2])
        for thing in [3, -1, 10 ** 39] + [thing for thing in odd_things() if not is_plain_integer(thing)]:
            self.assertEqual(error_of(book_at, F, 3, thing), "NoNumber")
            self.assertEqual(error_of(book_at, F, 5, thing), "TooMany 14")
            self.assertEqual(error_of(book_at, F, 7, thing), "NoNumber")
        self.assertEqual(error_of(book_at, F, 1, 1), "NoNumber")
        self.assertEqual(book_at(F, 1, 0).words, ("a", "b"))

    def test_ways(self):
        one = free_web("a")
        for ways in (1, 6):
            self.assertEqual([book.words for book in all_books(one, ways)], [("a" * ways,)])
        for thing in [0, 7, -1, 10 ** 39] + [thing for thing in odd_things() if not is_plain_integer(thing)]:
            for function in FUNCTIONS:
                self.assertEqual(error_of(function, one, thing), "NoNumber")
            self.assertEqual(error_of(book_at, one, thing, 0), "NoNumber")
            self.assertEqual(error_of(filled, Book(one, ()), thing), "NoNumber")
            self.assertEqual(error_of(cheapest, one, thing, {"a": 1}), "NoNumber")
            self.assertEqual(error_of(cheapest, one, thing, None), "NoNumber")

    def test_just_as_many_as_may_be(self):
        self.assertEqual(many_books(BLOCKS, 2), 2000)
        self.assertEqual(len({book.words for book in all_books(BLOCKS, 2)}), 2000)
        self.assertTrue(all(is_full(book) for book in all_books(BLOCKS, 2)[::100]))
        self.assertEqual(book_at(BLOCKS, 2, 1999), all_books(BLOCKS, 2)[-1])
        self.assertEqual(error_of(book_at, BLOCKS, 2, 2000), "NoNumber")
        self.assertEqual(len(more(made(MORE_BLOCKS, (), 1))), 2016)
        for function in FUNCTIONS:
            self.assertEqual(error_of(function, MORE_BLOCKS, 2), "TooMany 2000")
        self.assertEqual(error_of(all_books, ring_web("abcdefghijk"), 2), "TooMany 2000")
        self.assertEqual(many_books(ring_web("abcdefghij"), 2), 1023)

    def test_words_that_are_not_inner(self):
        self.assertEqual(many_books(FIFTEEN, 1), 1)
        for function in FUNCTIONS:
            self.assertEqual(error_of(function, FIFTEEN, 2), "TooMany 14")
            self.assertEqual(error_of(function, FIFTEEN, 6), "TooMany 14")
            self.assertEqual(error_of(function, F, 5), "TooMany 14")
            self.assertEqual(error_of(function, F, 6), "TooMany 14")
        fourteen = Web(2, tuple(sorted([(0, letter, 1) for letter in "abcdefghijklm"] + [(1, "o", 0)])))
        self.assertEqual(error_of(all_books, fourteen, 2), "TooMany 2000")
        # With 3 ways of three letters, 9 words with 2 ways; the books with 3 ways have more than 14.
        self.assertEqual(many_books(free_web("abc"), 3), 25)
        self.assertEqual(error_of(many_books, free_web("abc"), 4), "TooMany 14")

    def test_stretches_within(self):
        for function in FUNCTIONS:
            self.assertEqual(error_of(function, OVER_ABOVE, 2), "TooMany 2000")
            self.assertIsNone(error_of(function, OVER_ABOVE, 1))
            self.assertIsNone(error_of(function, JUST_ABOVE, 2))
        # Way by way: what is too much with fewer ways is told first.
        self.assertEqual(error_of(many_books, OVER_ABOVE, 3), "TooMany 2000")
        self.assertEqual(error_of(many_books, free_web("abcdefghijkl"), 3), "TooMany 14")

    def test_book_number(self):
        for book in NOT_FULL:
            self.assertEqual(error_of(book_number, book), "NotFull")
        one = free_web("a")
        self.assertEqual(book_number(Book(one, ("a" * 6,))), 0)
        self.assertEqual(error_of(book_number, Book(one, ("a" * 7,))), "TooMany 6")
        self.assertEqual(error_of(book_number, Book(F, tuple(text for text in stretches_up_to(F, 7) if len(text) == 7))), "TooMany 6")
        self.assertEqual(error_of(book_number, Book(F, tuple(text for text in stretches_up_to(F, 5) if len(text) == 5))), "TooMany 14")
        self.assertEqual(error_of(book_number, made(FIFTEEN, (), 2)), "TooMany 14")
        self.assertEqual(book_number(made(FIFTEEN, (), 1)), 0)
        self.assertEqual(error_of(book_number, made(MORE_BLOCKS, (), 2)), "TooMany 2000")
        self.assertEqual([book_number(book) for book in all_books(G, 4)], list(range(20)))

    def test_webs_of_any_size(self):
        wide = rows_web(["aab" * 3, "b" * 13])
        self.assertEqual([book.words for book in all_books(wide, 2)], sorted(book.words for book in more(made(wide, (), 1))))

    def test_lists_and_dicts_are_new(self):
        first = all_books(G, 3)
        first.append(0)
        self.assertEqual(all_books(G, 3), first[:-1])
        table = sizes(G, 3)
        table[0] = 1
        self.assertEqual(sizes(Web(2, G.arrows), 3), {size: many for size, many in table.items() if size})


class Filled(unittest.TestCase):
    def test_against_a_list(self):
        for book in BOOKS + [Book(book.web, book.words[:2]) for book, _, _ in FULL]:
            for ways in (1, 2, 3):
                known = None
                for fewer in range(1, ways + 1):
                    holding = [other.words for other in all_books(book.web, fewer) if set(book.words) <= set(other.words)]
                    if known is None and holding:
                        known = Book(book.web, min(holding))
                self.assertEqual(filled(book, ways), known)

    def test_ordinary_ones(self):
        self.assertEqual(filled(Book(F, ()), 4), Book(F, ("a", "b")))
        self.assertEqual(filled(Book(F, ("ab",)), 3), TWO)
        self.assertIsNone(filled(Book(F, ("ab",)), 1))
        self.assertEqual(filled(Book(F, ("aaba",)), 3), THREE)
        self.assertIsNone(filled(Book(F, ("aaba",)), 2))
        self.assertEqual(filled(THREE, 4), THREE)
        self.assertIsNone(filled(Book(F, ("aaaaa",)), 4))
        self.assertEqual(filled(Book(free_web("a"), ("aaaa",)), 6), Book(free_web("a"), ("aaaa",)))
        self.assertIsNone(filled(Book(free_web("a"), ("a" * 7,)), 6))
        self.assertEqual(filled(Book(G, ("b",)), 4), Book(G, ("a", "b")))

    def test_errors(self):
        # The ways told count, also where a book with fewer is there.
        self.assertEqual(error_of(filled, Book(F, ("a",)), 5), "TooMany 14")
        self.assertIsNone(error_of(filled, Book(F, ("a",)), 4))
        self.assertEqual(error_of(filled, Book(MORE_BLOCKS, ()), 2), "TooMany 2000")
        self.assertIsNone(error_of(filled, Book(MORE_BLOCKS, ()), 1))


class Cheapest(unittest.TestCase):
    def test_against_a_list(self):
        for web in SMALL:
            signs = sorted({letter for _, letter, _ in web.arrows})
            for seed in range(4):
                prices = {sign: (7 * seed + 31 * at * seed + at) % 100 for at, sign in enumerate(signs)}
                kept = dict(prices)
                for ways in (1, 2, 3):
                    known = min(
                        (sum(prices[sign] for word in book.words for sign in word), book.words) for book in all_books(web, ways)
                    )
                    found = cheapest(web, ways, prices)
                    self.assertIs(type(found), tuple)
                    self.assertEqual((found[0], found[1].words), known)
                    self.assertEqual((found[1].web, type(found[0])), (web, int))
                self.assertEqual(prices, kept)

    def test_ordinary_ones(self):
        self.assertEqual(cheapest(F, 1, {"a": 0, "b": 99}), (99, Book(F, ("a", "b"))))
        self.assertEqual(cheapest(F, 2, {"a": 1, "b": 10}), (44, TWO))
        self.assertEqual(cheapest(F, 3, {"a": 0, "b": 0}), (0, all_books(F, 3)[0]))
        self.assertEqual(cheapest(free_web("a"), 6, {"a": 99}), (594, Book(free_web("a"), ("a" * 6,))))
        self.assertEqual(cheapest(G, 4, {"b": 1, "a": 99})[1].web, G)

    def test_prices(self):
        wrong = [
            {"a": 1}, {"a": 1, "b": 2, "c": 3}, {"a": 1, "c": 2}, {"a": 1, "b": 100}, {"a": 1, "b": -1}, {"a": 1, "b": True},
            {"a": 1, "b": "2"}, {"a": 1, "b": None}, {"a": 1, 1: 2}, {"a": 1, None: 2}, {"a": 1, ("b",): 2}, {"a": 1, b"b": 2},
            {}, [("a", 1), ("b", 2)], ("a", "b"), {"a": 1, "B": 2}, {"a": 1, "ab": 2}, {"a": 1, "": 2}, {"a": 1, "b": [2]},
            {"a": 1, "b": 10 ** 39},
        ]
        for thing in wrong + odd_things():
            self.assertEqual(error_of(cheapest, F, 2, thing), "NoPrices")
            self.assertEqual(error_of(cheapest, F, 5, thing), "NoPrices")
            self.assertEqual(error_of(cheapest, F, 0, thing), "NoNumber")
        for thing in odd_things():
            if not (is_plain_integer(thing) and 0 <= thing <= 99):
                self.assertEqual(error_of(cheapest, F, 2, {"a": 1, "b": thing}), "NoPrices")
        for prices in ({"a": 0, "b": 0}, {"a": 99, "b": 99}):
            self.assertIsNone(error_of(cheapest, F, 3, prices))
            self.assertEqual(error_of(cheapest, F, 5, prices), "TooMany 14")
        self.assertIsNone(error_of(cheapest, WEBS[5], 2, {"a": 99}))


if __name__ == "__main__":
    unittest.main()
