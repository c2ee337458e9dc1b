"""Rows by number, frames, and what tells a reading: 3.4, 3.5."""

import unittest

from neverjoin.books import Book
from neverjoin.errors import NoNumber, NoPlaces, NoRow, NoStretch, TooLong
from neverjoin.frames import first_with, frame, longest_row, row_at, row_number, told_by
from neverjoin.making import free_web, left_out, ring_web, rows_web
from neverjoin.readings import many_rows, readings
from plain import (
    BOOKS, EVEN, F, G, R, THREE, TWO, all_texts, is_plain_integer, is_text, odd_things, rows_of_cuts, split_up,
    stretches_up_to, walk_ends, walk_texts,
)


def rows_up_to(book, length):
    """The dict from lengths to the ascending rows of words of this length."""
    return {
        size: sorted(text for text in walk_texts(book.web, size) if split_up(book.words, text)) for size in range(length + 1)
    }


def plain_frame(rows, text, most):
    """The least of the shortest frames with at most so many letters, in rows that are listed."""
    for size in range(most + 1):
        found = []
        for row in rows[len(text) + size]:
            for at in range(size + 1):
                if row[at:at + len(text)] == text:
                    found.append((row[:at], row[at + len(text):]))
        if found:
            return min(found)
    return None


def plain_ways(book, text):
    return len(text) + 1 - sum(text.endswith(word, 0, end) for end in range(len(text) + 1) for word in book.words)


class RowsByNumber(unittest.TestCase):
    def test_against_a_list(self):
        for book in BOOKS:
            for size, known in rows_up_to(book, 7 if book.web.points < 4 else 5).items():
                self.assertEqual([row_at(book, size, number) for number in range(len(known))], known)
                self.assertEqual([row_number(book, text) for text in known], list(range(len(known))))
                for number in (-1, len(known)):
                    with self.assertRaises(NoNumber):
                        row_at(book, size, number)

    def test_bounds(self):
        self.assertEqual((row_at(TWO, 0, 0), row_number(TWO, "")), ("", 0))
        self.assertEqual((row_at(Book(F, ()), 0, 0), row_number(Book(F, ()), "")), ("", 0))
        self.assertEqual(row_at(TWO, 200, 2 ** 200 - 1), "b" * 200)
        self.assertEqual(row_number(TWO, "b" * 200), 2 ** 200 - 1)
        self.assertEqual(row_at(TWO, 200, 10 ** 39), format(10 ** 39, "0200b").replace("0", "a").replace("1", "b"))
        for size in (198, 195):
            for book in (THREE, Book(G, ("aab", "aba", "baa"))):
                most = many_rows(book, size)
                for number in {0, most // 2, most - 1}:
                    self.assertEqual(row_number(book, row_at(book, size, number)), number)

    def test_errors_of_row_at(self):
        for thing in [-1, 201, 10 ** 39] + [thing for thing in odd_things() if not is_plain_integer(thing)]:
            with self.assertRaises(NoNumber):
                row_at(TWO, thing, 0)
        for thing in [-1, 4, 10 ** 39] + [thing for thing in odd_things() if not is_plain_integer(thing)]:
            with self.assertRaises(NoNumber):
                row_at(TWO, 2, thing)
        with self.assertRaises(NoNumber):
            row_at(TWO, 1, 0)

    def test_errors_of_row_number(self):
        book = Book(G, ("ab",))
        for thing in odd_things() + ["bb", "abb", "c" * 300]:
            if is_text(thing) and set(thing) <= set("ab") and walk_ends(G, thing):
                continue
            with self.assertRaises(NoStretch):
                row_number(book, thing)
        for text in ("a", "ba", "aab", "aba", "a" * 300):
            with self.assertRaises(NoRow):
                row_number(book, text)
        self.assertEqual(row_number(book, "ab" * 100), 0)
        for text in ("ab" * 101, "ab" * 200, "ab" * 1000):
            with self.assertRaises(TooLong) as caught:
                row_number(book, text)
            self.assertEqual(caught.exception.most, 200)


class Frames(unittest.TestCase):
    def test_against_a_list(self):
        for book in BOOKS:
            longest = max([len(word) for word in book.words], default=0)
            most = max(0, 2 * longest - 2)
            size = max(0, min(3, 9 - most))
            rows = rows_up_to(book, size + most)
            for text in stretches_up_to(book.web, size):
                self.assertEqual(frame(book, text), plain_frame(rows, text, most), (book.web.arrows, book.words, text))

    def test_ordinary_ones(self):
        self.assertEqual(frame(TWO, "b"), ("", "a"))
        self.assertEqual(frame(TWO, "ab"), ("", ""))
        self.assertEqual(frame(TWO, "aba"), ("", "a"))
        self.assertEqual(frame(Book(F, ("a",)), "b"), None)
        self.assertEqual(frame(Book(F, ("ba",)), "ab"), ("b", "a"))
        self.assertEqual(frame(Book(F, ("babb", "bba")), "ab"), ("b", "b"))
        self.assertEqual(frame(Book(F, ("aab", "babb")), "ab"), ("a", ""))
        self.assertEqual(frame(Book(G, ("aba",)), "aa"), ("ab", "ba"))

    def test_the_empty_stretch(self):
        for book in BOOKS:
            self.assertEqual(frame(book, ""), ("", ""))

    def test_frames_have_to_be_stretches(self):
        book = Book(G, ("aab", "baa"))
        self.assertEqual(frame(book, "ba"), ("", "a"))
        self.assertEqual(frame(book, "ab"), ("a", ""))
        self.assertEqual(frame(Book(F, ("bab",)), "abba"), ("b", "b"))
        self.assertIsNone(frame(Book(G, ("bab",)), "abab"))
        # aabbbaa would have an odd number of letters b between two letters a.
        self.assertIsNone(frame(Book(EVEN, ("aab", "bbaa")), "aabbb"))
        self.assertEqual(frame(Book(F, ("aab", "bbaa")), "aabbb"), ("", "aa"))
        self.assertEqual(frame(Book(R, ("aab",)), "ba"), ("aa", "ab"))

    def test_long_ones(self):
        self.assertEqual(frame(TWO, "a" * 399), ("", "a"))
        self.assertEqual(frame(TWO, "a" * 400), ("", ""))
        book = Book(F, ("a" * 59 + "b",))
        self.assertEqual(frame(book, "a" * 59), ("", "b"))
        self.assertEqual(frame(book, "b"), ("a" * 59, ""))
        self.assertEqual(frame(book, "ba"), ("a" * 59, "a" * 58 + "b"))
        self.assertIsNone(frame(book, "a" * 60))
        self.assertEqual(frame(book, "ab" + book.words[0] * 5 + "a"), ("a" * 58, "a" * 58 + "b"))

    def test_what_is_no_stretch(self):
        for function in (frame, longest_row):
            for thing in odd_things() + ["c", "abc", ["a"]]:
                if is_text(thing) and set(thing) <= set("ab"):
                    continue
                with self.assertRaises(NoStretch):
                    function(TWO, thing)


class FirstWith(unittest.TestCase):
    def test_against_a_list(self):
        for book in BOOKS:
            texts = stretches_up_to(book.web, 6)
            for many in range(1, 6):
                known = [text for text in texts if plain_ways(book, text) == many]
                found = first_with(book, many)
                if known:
                    self.assertEqual(found, known[0])
                elif found is not None:
                    self.assertEqual(plain_ways(book, found), many)
                    self.assertGreater(len(found), 6)

    def test_none(self):
        self.assertEqual([first_with(TWO, many) for many in (1, 2, 3, 30)], ["", "a", None, None])
        self.assertEqual([first_with(THREE, many) for many in (1, 2, 3, 4)], ["", "a", "aa", None])
        self.assertEqual(first_with(Book(F, ("a", "b")), 1), "")
        self.assertIsNone(first_with(Book(F, ("a", "b")), 2))
        self.assertIsNone(first_with(Book(R, ("aab", "aba", "baa")), 4))
        self.assertEqual(first_with(Book(R, ("aab", "aba", "baa")), 3), "aa")

    def test_many(self):
        self.assertEqual(first_with(Book(F, ()), 30), "a" * 29)
        self.assertEqual(first_with(Book(F, ("a",)), 30), "b" * 29)
        self.assertEqual(first_with(Book(ring_web("ab"), ("ab",)), 30), "ba" * 28)
        self.assertEqual(first_with(Book(F, ("a" * 60,)), 30), "a" * 29)
        self.assertEqual(first_with(Book(left_out("ab", ("bb",)), ("a",)), 3), "bab")
        for thing in [0, -1, 31, 10 ** 39] + [thing for thing in odd_things() if not is_plain_integer(thing)]:
            with self.assertRaises(NoNumber):
                first_with(TWO, thing)

    def test_many_words(self):
        nine = Book(F, tuple(all_texts("ab", 9)[:400]))
        self.assertEqual(first_with(nine, 9), "a" * 8)
        text = first_with(nine, 10)
        self.assertEqual((len(text), plain_ways(nine, text)), (9, 10))
        self.assertEqual(text, all_texts("ab", 9)[400])


class ToldBy(unittest.TestCase):
    def test_against_a_list(self):
        for book in BOOKS:
            for text in stretches_up_to(book.web, 4):
                known = rows_of_cuts(book.words, text)
                for one in range(len(text) + 1):
                    for other in range(len(text) + 1):
                        fitting = [reading for reading in known if one in reading and other in reading]
                        told = fitting[0] if fitting else None
                        self.assertEqual(told_by(book, text, [one, other]), told)
                        self.assertEqual(told_by(book, text, (other, one, one)), told)

    def test_which_places(self):
        self.assertEqual(told_by(TWO, "aba", (3,)), (1, 3))
        self.assertEqual(told_by(TWO, "", [0]), (0,))
        self.assertIsNone(told_by(TWO, "aba", (0, 1)))
        wrong = [(), [], (4,), (-1,), (0, True), (0, None), (0, "1"), (0, [1]), {0: 1}, "0", 0, (0, 10 ** 39), ((0,),), [False]]
        for thing in wrong + odd_things():
            if (type(thing) is list or type(thing) is tuple) and thing:
                if all(type(item) is int and 0 <= item <= 3 for item in thing):
                    continue
            with self.assertRaises(NoPlaces):
                told_by(TWO, "aba", thing)
            with self.assertRaises(NoStretch):
                told_by(TWO, "abc", thing)
        places = [2, 0]
        self.assertEqual(told_by(TWO, "aba", places), (0, 2))
        self.assertEqual(places, [2, 0])


class LongestRow(unittest.TestCase):
    def test_against_a_list(self):
        for book in BOOKS:
            for text in stretches_up_to(book.web, 6 if book.web.points < 3 else 4):
                places = range(len(text) + 1)
                known = [(begin, end) for begin in places for end in places if begin < end and split_up(book.words, text[begin:end])]
                longest = max([end - begin for begin, end in known], default=0)
                self.assertEqual(longest_row(book, text), min([pair for pair in known if pair[1] - pair[0] == longest], default=None))

    def test_edges(self):
        self.assertIsNone(longest_row(TWO, ""))
        self.assertIsNone(longest_row(Book(F, ()), "ab"))
        self.assertEqual(longest_row(TWO, "aba"), (0, 2))
        self.assertEqual(longest_row(TWO, "a" * 400), (0, 400))
        self.assertEqual(longest_row(TWO, "a" * 399), (0, 398))
        self.assertEqual(longest_row(Book(F, ("a",)), "bab" + "aa" + "baa"), (3, 5))
        wide = Book(rows_web(["ab" * 10, "b" * 20]), ("ab",))
        self.assertEqual(longest_row(wide, "bbabab"), (2, 6))
        self.assertEqual(readings(wide, "bbabab"), [(0,), (1,), (2, 4, 6), (3,), (5,)])
        self.assertEqual(longest_row(Book(free_web("a"), ("a",)), "aaa"), (0, 3))


if __name__ == "__main__":
    unittest.main()
