"""Readings and rows: 3.2, 3.3."""

import unittest

from neverjoin.books import Book
from neverjoin.errors import NoNumber, NoPlace, NoStretch
from neverjoin.making import free_web, ring_web, rows_web
from neverjoin.readings import comings, is_reading, many_rows, reading_at, readings, ways, words_of
from plain import (
    BOOKS, F, G, R, THREE, TWO, all_texts, is_plain_integer, is_text, odd_things, rows_of_cuts, split_up,
    stretches_up_to, walk_ends, walk_texts,
)


class Readings(unittest.TestCase):
    def test_against_all_rows_of_cuts(self):
        for book in BOOKS:
            for text in stretches_up_to(book.web, 6 if book.web.points < 3 else 4):
                known = rows_of_cuts(book.words, text)
                places = range(len(text) + 1)
                came = [(begin, end) for begin in places for end in places if text[begin:end] in book.words]
                self.assertEqual(comings(book, text), sorted(came))
                self.assertEqual(readings(book, text), known)
                self.assertEqual(ways(book, text), len(known))
                self.assertEqual(ways(book, text), len(text) + 1 - len(came))
                for place in places:
                    self.assertEqual([reading_at(book, text, place)], [reading for reading in known if place in reading])
                for reading in known:
                    self.assertIs(is_reading(book, text, reading), True)

    def test_examples(self):
        self.assertEqual(readings(TWO, "aba"), [(0, 2), (1, 3)])
        self.assertEqual(ways(THREE, "ab"), 2)
        self.assertEqual(comings(TWO, "aba"), [(0, 2), (1, 3)])
        self.assertEqual(readings(TWO, "abab"), [(0, 2, 4), (1, 3)])

    def test_the_empty_stretch(self):
        for book in BOOKS:
            self.assertEqual((comings(book, ""), readings(book, ""), ways(book, "")), ([], [(0,)], 1))
            self.assertEqual(reading_at(book, "", 0), (0,))
            self.assertEqual(words_of(book, ""), ())

    def test_books_without_words(self):
        book = Book(R, ())
        self.assertEqual(readings(book, "aba"), [(0,), (1,), (2,), (3,)])
        self.assertEqual((comings(book, "aba"), ways(book, "aba"), words_of(book, "aba")), ([], 4, None))

    def test_is_reading(self):
        for thing in odd_things() + [[0, 2], (0, 2, 2), (2, 0), (0,), (0, 1), (False, 2), (0, True), (0, 3), (), (0, 2, "3"), (True, 3)]:
            self.assertIs(is_reading(TWO, "aba", thing), False)
        self.assertIs(is_reading(TWO, "aba", (0, 2)), True)
        self.assertIs(is_reading(TWO, "aba", (1, 3)), True)
        self.assertIs(is_reading(Book(F, ()), "a", (False,)), False)
        self.assertIs(is_reading(Book(F, ()), "a", (True,)), False)
        self.assertIs(is_reading(Book(F, ()), "a", (1,)), True)

    def test_places(self):
        self.assertEqual(reading_at(TWO, "aba", 0), (0, 2))
        self.assertEqual(reading_at(TWO, "aba", 3), (1, 3))
        for thing in [-1, 4, 10 ** 39] + [thing for thing in odd_things() if not is_plain_integer(thing)]:
            with self.assertRaises(NoPlace):
                reading_at(TWO, "aba", thing)
            with self.assertRaises(NoStretch):
                reading_at(TWO, "abc", thing)

    def test_what_is_no_stretch(self):
        book = Book(G, ("ab", "ba"))
        for thing in odd_things() + ["bb", "abc", "aB", ["a"], ("a",)]:
            if is_text(thing) and walk_ends(G, thing) and set(thing) <= set("ab"):
                continue
            calls = [
                lambda: comings(book, thing), lambda: readings(book, thing), lambda: ways(book, thing),
                lambda: reading_at(book, thing, 0), lambda: reading_at(book, thing, None),
                lambda: is_reading(book, thing, (0,)), lambda: is_reading(book, thing, None), lambda: words_of(book, thing),
            ]
            for call in calls:
                with self.assertRaises(NoStretch):
                    call()

    def test_long_stretches(self):
        for size in (399, 400, 4000):
            text = ("ab" * size)[:size]
            self.assertEqual(ways(TWO, text), 2)
            self.assertEqual(reading_at(TWO, text, size)[-1], size)
            self.assertEqual(reading_at(TWO, text, 1), tuple(range(1, size + 1, 2)))
            self.assertEqual(len(comings(TWO, text)), size - 1)
            self.assertIs(is_reading(TWO, text, tuple(range(0, size + 1, 2))), True)
            self.assertEqual(words_of(TWO, text), None if size % 2 else ("ab",) * (size // 2))

    def test_words_of_most_letters(self):
        book = Book(F, ("a" * 60,))
        self.assertEqual(comings(book, "a" * 61), [(0, 60), (1, 61)])
        self.assertEqual(words_of(book, "a" * 120), ("a" * 60, "a" * 60))
        self.assertEqual(ways(book, "a" * 400), 60)

    def test_lists_are_new(self):
        for function in (comings, readings):
            first = function(TWO, "aba")
            first.append(0)
            self.assertEqual(function(TWO, "aba"), [(0, 2), (1, 3)])


class Rows(unittest.TestCase):
    def test_words_of_against_all_splits(self):
        for book in BOOKS:
            for text in stretches_up_to(book.web, 6 if book.web.points < 3 else 4):
                known = split_up(book.words, text)
                self.assertLessEqual(len(known), 1)
                self.assertEqual(words_of(book, text), known[0] if known else None)

    def test_many_rows_against_a_list(self):
        for book in BOOKS:
            for size in range(8 if book.web.points < 4 else 5):
                known = [text for text in walk_texts(book.web, size) if split_up(book.words, text)]
                self.assertEqual(many_rows(book, size), len(known))

    def test_rows_have_to_be_stretches(self):
        book = Book(G, ("ab", "ba"))
        self.assertEqual([many_rows(book, size) for size in range(7)], [1, 0, 2, 0, 3, 0, 4])

    def test_bounds(self):
        self.assertEqual([many_rows(TWO, size) for size in (0, 1, 2, 199, 200)], [1, 0, 4, 0, 2 ** 200])
        self.assertEqual([many_rows(Book(F, ()), size) for size in (0, 1, 200)], [1, 0, 0])
        self.assertEqual([many_rows(Book(F, ("a",)), size) for size in (0, 1, 200)], [1, 1, 1])
        self.assertEqual(many_rows(Book(R, ("aab", "aba", "baa")), 198), 3)
        self.assertEqual(many_rows(Book(ring_web("ab"), ("ab",)), 200), 1)
        for thing in [-1, 201, 10 ** 39] + [thing for thing in odd_things() if not is_plain_integer(thing)]:
            with self.assertRaises(NoNumber):
                many_rows(TWO, thing)

    def test_many_words(self):
        nine = tuple(all_texts("ab", 9)[:400])
        book = Book(F, nine)
        self.assertEqual([many_rows(book, size) for size in (9, 10, 18, 180)], [400, 0, 160000, 400 ** 20])
        self.assertEqual(words_of(book, nine[7] + nine[399] + nine[7]), (nine[7], nine[399], nine[7]))

    def test_wide_webs(self):
        texts = ["aab" * 6, "b" * 20, "ab" * 10]
        book = Book(rows_web(texts), ("aab", "bb"))
        for size in range(10):
            known = [text for text in walk_texts(book.web, size) if split_up(book.words, text)]
            self.assertEqual(many_rows(book, size), len(known))
        self.assertEqual(words_of(Book(free_web("z"), ("z",)), "zzz"), ("z", "z", "z"))


if __name__ == "__main__":
    unittest.main()
