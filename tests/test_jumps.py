"""Jumps and word steps: 5.4, 5.5."""

import random
import unittest
from itertools import permutations, product

from neverjoin.books import Book
from neverjoin.full import all_ways, is_full
from neverjoin.jumps import jumps, ring_book, word_parts, word_steps
from neverjoin.making import free_web, ring_web
from neverjoin.stretches import is_ring, rings
from plain import (
    BOOKS, F, FULL, G, NOT_FULL, R, THREE, TWO, clash_free, error_of, is_text, odd_things, plain_full,
)


def texts_round(text, sizes):
    """The texts of so many letters from each place of a ring on."""
    size = len(text)
    return ["".join(text[(place + step) % size] for step in range(many)) for place, many in enumerate(sizes)]


class Jumps(unittest.TestCase):
    def test_place_by_place(self):
        for book, many, _ in FULL:
            found = [ring for size in range(1, 6) for ring in rings(book.web, size)]
            for ring in random.Random(1).sample(found, min(10, len(found))):
                known = []
                for place in range(len(ring)):
                    text = "".join(ring[(place + step) % len(ring)] for step in range(9))
                    known += [len(word) for word in book.words if text.startswith(word)]
                self.assertEqual(jumps(book, ring), tuple(known))
                self.assertEqual(sum(known), many * len(ring))
                ends = {(place + size) % len(ring) for place, size in enumerate(known)}
                self.assertEqual(len(ends), len(ring))

    def test_ordinary_ones(self):
        self.assertEqual(jumps(THREE, "aab"), (4, 2, 3))
        self.assertEqual(jumps(TWO, "a" * 400), (2,) * 400)
        self.assertEqual(jumps(Book(free_web("a"), ("a" * 60,)), "aa"), (60, 60))
        self.assertIs(type(jumps(TWO, "a")), tuple)

    def test_errors_in_order(self):
        for book in NOT_FULL:
            self.assertEqual(error_of(jumps, book, "ab"), "NotFull")
            self.assertEqual(error_of(jumps, book, None), "NotFull")
        book = Book(G, ("a", "b"))
        for thing in odd_things() + ["", "b", "bb", "abc"]:
            if not is_ring(G, thing):
                self.assertEqual(error_of(jumps, book, thing), "NoRing")


class RingBooks(unittest.TestCase):
    def check(self, text, sizes):
        words = tuple(sorted(set(texts_round(text, sizes))))
        book = ring_book(text, sizes)
        if not clash_free(words):
            self.assertIsNone(book)
            return False
        self.assertEqual(book, Book(ring_web(text), words))
        self.assertIs(is_full(book), True)
        return True

    def test_all_small_ones(self):
        for text in ("a", "ab", "aa", "aab", "abc", "aaa", "abab"):
            many = 0
            for sizes in product(range(1, 6), repeat=len(text)):
                ends = {(place + size) % len(text) for place, size in enumerate(sizes)}
                if len(ends) < len(text):
                    self.assertEqual(error_of(ring_book, text, sizes), "NoJumps")
                else:
                    many += self.check(text, sizes)
            self.assertGreater(many, 0)

    def test_all_full_books_of_unlike_letters(self):
        # With 2 ways the jumps of three places come to 6 letters together, and no word has more than 4.
        found = []
        for sizes in product(range(1, 5), repeat=3):
            ends = {(place + size) % 3 for place, size in enumerate(sizes)}
            if len(ends) == 3 and all_ways(ring_book("abc", sizes)) == 2:
                found.append(ring_book("abc", sizes).words)
        self.assertEqual(len(found), 7)
        for book, many, _ in FULL:
            if book.web == ring_web("abc"):
                self.assertEqual(ring_book("abc", jumps(book, "abc")), book)

    def test_clashing_words(self):
        self.assertIsNone(ring_book("aa", (1, 3)))
        self.assertEqual(ring_book("aa", (1, 1)), Book(ring_web("aa"), ("a",)))
        self.assertEqual(ring_book("aa", (60, 60)), Book(ring_web("aa"), ("a" * 60,)))
        self.assertIsNone(ring_book("aab", (1, 2, 3)))
        self.assertEqual(ring_book("ab", (1, 3)).words, ("a", "bab"))

    def test_bounds(self):
        self.assertEqual(ring_book("a", (1,)).words, ("a",))
        self.assertEqual(ring_book("a", (60,)).words, ("a" * 60,))
        self.assertEqual(error_of(ring_book, "a", (0,)), "NoJumps")
        self.assertEqual(error_of(ring_book, "a", (61,)), "NoJumps")
        self.assertEqual(error_of(ring_book, "ab", (1, -1)), "NoJumps")
        twelve = "abcdefghijkl"
        self.check(twelve, (60,) * 12)
        self.check(twelve, (1,) * 12)
        self.check(twelve, tuple(12 - 2 * place + 12 * (place > 5) for place in range(12)))
        for order in list(permutations(range(4)))[:24]:
            sizes = tuple((end - place) % 4 or 4 for place, end in enumerate(order))
            self.assertTrue(self.check("abcd", sizes))
            self.assertTrue(self.check("abcd", tuple(size + 56 for size in sizes)))

    def test_texts(self):
        for thing in odd_things() + ["", "abcdefghijklm", "aB", ["a"]]:
            if is_text(thing) and 1 <= len(thing) <= 12:
                continue
            self.assertEqual(error_of(ring_book, thing, (1,)), "NoText")
            self.assertEqual(error_of(ring_book, thing, None), "NoText")

    def test_jumps_of_any_kind(self):
        for thing in odd_things() + [(), (1,), (1, 1, 1), [1, 1], (1, 2), (2, 1), (1, True), (True, True), (1, "1"), (1, None), (1, (1,)), (1, 2.0)]:
            self.assertEqual(error_of(ring_book, "ab", thing), "NoJumps")
        for thing in odd_things():
            if not (type(thing) is tuple and len(thing) == 1):
                self.assertEqual(error_of(ring_book, "a", (thing, 1)), "NoJumps")

    def test_books_are_full_of_the_ring(self):
        for seed in range(150):
            source = random.Random(seed)
            text = "".join(source.choice("abcd") for _ in range(source.randint(1, 6)))
            order = list(range(len(text)))
            source.shuffle(order)
            sizes = tuple((end - place) % len(text) + len(text) * source.randint(1, 2) for place, end in enumerate(order))
            if self.check(text, sizes):
                book = ring_book(text, sizes)
                self.assertEqual(jumps(book, text), sizes)
                self.assertEqual(all_ways(book), sum(sizes) // len(text))


def plain_steps(book):
    found = []
    for begin in range(book.web.points):
        for word in book.words:
            ends = {begin}
            for sign in word:
                ends = {end for start, letter, end in book.web.arrows if start in ends and letter == sign}
            found += [(begin, word, end) for end in ends]
    return sorted(found)


def plain_parts(points, steps):
    reach = {point: {point} for point in range(points)}
    for _ in range(points):
        for begin, _, end in steps:
            for point in reach:
                if begin in reach[point]:
                    reach[point].add(end)
    return sorted({tuple(end for end in range(points) if end in reach[point] and point in reach[end]) for point in range(points)})


class WordSteps(unittest.TestCase):
    def test_against_all_walks(self):
        for book in BOOKS + [book for book, _, _ in FULL]:
            known = plain_steps(book)
            self.assertEqual(word_steps(book), known)
            self.assertEqual(word_parts(book), plain_parts(book.web.points, known))

    def test_tenth_fact(self):
        for book, _, _ in FULL:
            parts = {point: part for part in word_parts(book) for point in part}
            for begin, _, end in word_steps(book):
                self.assertEqual(parts[begin], parts[end])

    def test_ordinary_ones(self):
        self.assertEqual(word_steps(Book(G, ("ab", "ba"))), [(0, "ab", 1), (0, "ba", 0), (1, "ab", 1)])
        self.assertEqual(word_parts(Book(G, ("ab", "ba"))), [(0,), (1,)])
        self.assertEqual(word_steps(Book(F, ())), [])
        self.assertEqual(word_parts(Book(R, ())), [(0,), (1,), (2,)])
        self.assertEqual(word_parts(Book(R, ("a", "b"))), [(0, 1, 2)])
        self.assertEqual(word_parts(Book(ring_web("abcd"), ("ab", "bc", "cd", "da"))), [(0, 2), (1, 3)])
        self.assertEqual(word_parts(Book(ring_web("abcdef"), ("abc", "def"))), [(0, 3), (1,), (2,), (4,), (5,)])
        self.assertEqual(plain_full(R, ("a", "b")), 1)

    def test_lists_are_new(self):
        for function in (word_steps, word_parts):
            first = function(TWO)
            first.append(0)
            self.assertEqual(function(TWO), first[:-1])
            self.assertIs(type(first), list)
            self.assertIs(type(first[0]), tuple)
        self.assertEqual(word_steps(Book(free_web("ab"), ("ab",))), word_steps(Book(F, ("ab",))))


if __name__ == "__main__":
    unittest.main()
