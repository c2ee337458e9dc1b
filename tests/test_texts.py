"""Webs, books and lots written as texts and read from them: 13.1."""

import random
import unittest

from neverjoin.books import Book
from neverjoin.inner import inner, made
from neverjoin.making import free_web, left_out, renamed, ring_web, rows_web
from neverjoin.reading import read_book, read_lot, read_web
from neverjoin.texts import book_text, lot_text, web_text
from neverjoin.webs import Web
from plain import BOOKS, F, FULL, G, JUST, R, THREE, TWO, WEBS, all_texts, drawn_lot, error_of, is_text, odd_things

WIDE = rows_web(["aab" * 6, "b" * 20, "ab" * 10])
# At most 12 points, but more arrows than a web that is constructed has.
DENSE = left_out("abcdefghijkl", ["ab", "bc", "cd", "de", "ef", "fg"])


def plain_web_text(web):
    lines = ["points " + str(web.points)] + [" ".join(["arrow", str(begin), letter, str(end)]) for begin, letter, end in web.arrows]
    return "\n".join(lines) + "\n"


class Written(unittest.TestCase):
    def test_line_by_line(self):
        for web in WEBS + [WIDE, DENSE]:
            self.assertEqual(web_text(web), plain_web_text(web))
        for book in BOOKS + [book for book, _, _ in FULL[::5]] + [made(WIDE, (), 3), JUST]:
            self.assertEqual(book_text(book), plain_web_text(book.web) + "".join("word " + word + "\n" for word in book.words))

    def test_ordinary_ones(self):
        self.assertEqual(web_text(R), "points 3\narrow 0 a 1\narrow 1 a 2\narrow 2 b 0\n")
        self.assertEqual(web_text(free_web("z")), "points 1\narrow 0 z 0\n")
        self.assertEqual(book_text(Book(free_web("a"), ())), "points 1\narrow 0 a 0\n")
        self.assertEqual(book_text(TWO), "points 1\narrow 0 a 0\narrow 0 b 0\nword aa\nword ab\nword ba\nword bb\n")
        self.assertEqual(lot_text(()), "")
        self.assertEqual(lot_text(("aabb", "ab")), "word aabb\nword ab\n")
        twelve = ring_web("abcdefghijkl")
        self.assertEqual(web_text(twelve).split("\n")[-3:], ["arrow 10 k 11", "arrow 11 l 0", ""])

    def test_arrows_of_large_webs(self):
        lines = web_text(WIDE).split("\n")
        self.assertEqual((lines[0], len(lines)), ("points " + str(WIDE.points), len(WIDE.arrows) + 2))
        self.assertGreater(WIDE.points, 12)
        self.assertGreater(len(DENSE.arrows), 60)
        self.assertLessEqual(DENSE.points, 12)


class ReadBack(unittest.TestCase):
    def test_what_was_written(self):
        for web in WEBS:
            if web.points <= 12 and len(web.arrows) <= 60:
                found = read_web(web_text(web))
                self.assertEqual((found, type(found)), (web, Web))
        for book in BOOKS + [book for book, _, _ in FULL]:
            if book.web.points <= 12:
                found = read_book(book_text(book))
                self.assertEqual((found, type(found)), (book, Book))
        for seed in range(60):
            web = WEBS[seed % len(WEBS)]
            lot = drawn_lot(random.Random(seed), web)
            self.assertEqual(read_lot(web, lot_text(lot)), lot)
            self.assertIs(type(read_lot(web, lot_text(lot))), tuple)

    def test_most_that_there_can_be(self):
        full = Web(12, tuple(sorted((at, "abcde"[more], (at + more + 1) % 12) for at in range(12) for more in range(5))))
        self.assertEqual(read_web(web_text(full)), full)
        words = tuple(all_texts("ab", 9))[:400]
        self.assertEqual(read_book(book_text(Book(F, words))), Book(F, words))
        self.assertEqual(read_lot(F, lot_text(words)), words)
        self.assertEqual(error_of(read_book, book_text(Book(F, words)) + "word bbbbbbbbb\n"), "BadBook words")
        self.assertEqual(error_of(read_lot, F, lot_text(words) + "word bbbbbbbbb\n"), "NoLot")

    def test_webs_that_were_returned(self):
        # A web that is read is constructed, so its sizes are bounded.
        self.assertEqual(error_of(read_web, web_text(WIDE)), "BadWeb points")
        self.assertEqual(error_of(read_book, book_text(made(WIDE, (), 2))), "BadWeb points")
        self.assertEqual(error_of(read_web, web_text(DENSE)), "BadWeb arrows")
        self.assertEqual(error_of(read_book, book_text(made(DENSE, (), 1))), "BadWeb arrows")
        self.assertEqual(error_of(read_book, book_text(made(free_web("abcdefghijkl"), (), 3))), "BadBook words")
        # For lots their web may be any.
        self.assertEqual(read_lot(WIDE, "word aab\n"), ("aab",))
        self.assertEqual(read_web(web_text(renamed(R, {"a": "x", "b": "y"}))), renamed(R, {"a": "x", "b": "y"}))


HEAD = "points 1\narrow 0 a 0\narrow 0 b 0\n"


class BadTexts(unittest.TestCase):
    def check(self, text, known, known_of_book=0):
        self.assertEqual(error_of(read_web, text), known, repr(text))
        self.assertEqual(error_of(read_book, text), known if known_of_book == 0 else known_of_book, repr(text))

    def test_what_is_no_string(self):
        for thing in odd_things():
            if type(thing) is not str:
                self.check(thing, "BadText 0")
                self.assertEqual(error_of(read_lot, F, thing), "BadText 0")

    def test_strings_of_any_kind(self):
        for thing in odd_things():
            if type(thing) is str:
                self.check(thing, "BadText 1")
                self.assertEqual(error_of(read_lot, F, thing), None if thing == "" else "BadText 1")

    def test_without_a_line(self):
        self.check("", "BadText 1")
        self.assertEqual(read_lot(F, ""), ())
        self.check("\n", "BadText 1")
        self.assertEqual(error_of(read_lot, F, "\n"), "BadText 1")

    def test_the_last_line_feed(self):
        self.check(HEAD, None)
        self.check(HEAD[:-1], "BadText 3")
        self.check("points 1", "BadText 1")
        self.check("points 1\narrow 0 a 0", "BadText 2")
        self.check(HEAD + "\n", "BadText 4")
        self.check(HEAD + "\n\n", "BadText 4")
        self.check(HEAD + " ", "BadText 4")
        self.check(HEAD + "x", "BadText 4")
        self.check(HEAD + "word ab", "BadText 4")
        self.check("\n" + HEAD, "BadText 1")
        self.assertEqual(error_of(read_lot, F, "word ab"), "BadText 1")
        self.assertEqual(error_of(read_lot, F, "word ab\nword ba"), "BadText 2")
        self.assertEqual(error_of(read_lot, F, "word ab\n\n"), "BadText 2")
        self.assertEqual(error_of(read_lot, F, "word ab\n "), "BadText 2")

    def test_the_first_wrong_line_counts(self):
        # Also where the last line feed is not there.
        self.check("points 1\narrow 0 a\narrow 0 b 0", "BadText 2")
        self.check("points 1\narrow 0 a\nx\narrow", "BadText 2")
        self.check("x\ny\nz", "BadText 1")
        self.check("points 1\narrow 0 a 0\nx\ny\n", "BadText 3")
        # A wrong text is told ahead of a wrong web, and this ahead of a wrong book.
        self.check("points 99\narrow 0 a 0\nx\n", "BadText 3")
        self.check("points 99\narrow 7 a 7\nword b\nword b\nx", "BadText 3", "BadText 5")
        self.check("points 99\narrow 7 a 7\nword b\nword b\n", "BadText 3", "BadWeb points")
        self.check("points 1\narrow 7 a 7\nword b\nword b\n", "BadText 3", "BadWeb arrows")
        self.check(HEAD + "word b\nword b\n", "BadText 4", "BadBook words")

    def test_lines_that_stand_where_they_cannot(self):
        self.check("arrow 0 a 0\npoints 1\n", "BadText 1")
        self.check("word ab\n" + HEAD, "BadText 1")
        self.check("points 1\npoints 1\narrow 0 a 0\n", "BadText 2")
        self.check(HEAD + "points 1\n", "BadText 4")
        self.check(HEAD + "word ab\n", "BadText 4", None)
        self.check(HEAD + "word ab\narrow 0 c 0\n", "BadText 4", "BadText 5")
        self.check(HEAD + "word ab\npoints 1\n", "BadText 4", "BadText 5")
        self.check("points 1\nword a\narrow 0 a 0\n", "BadText 2", "BadText 3")
        self.check("points 1\nword a\n", "BadText 2", "BadWeb arrows")
        for text in (HEAD, "points 1\n", "arrow 0 a 0\n"):
            self.assertEqual(error_of(read_lot, F, text), "BadText 1")
        self.assertEqual(error_of(read_lot, F, "word ab\npoints 1\n"), "BadText 2")
        self.assertEqual(error_of(read_lot, F, "word ab\narrow 0 a 0\nword"), "BadText 2")

    def test_no_arrow_lines(self):
        self.check("points 1\n", "BadWeb arrows")
        self.check("points 0\n", "BadWeb points")

    def test_numbers(self):
        for number in ("+1", "-1", "01", "00", "1.0", "1e1", "", "1_0", "0x1", "1 ", " 1", "a", "10000000000", "1234567890", "one", "1\t"):
            self.check("points " + number + "\narrow 0 a 0\n", "BadText 1")
            self.check("points 1\narrow " + number + " a 0\n", "BadText 2")
            self.check("points 1\narrow 0 a " + number + "\n", "BadText 2")
        for number in ("-0", "+0"):
            self.check("points 1\narrow " + number + " a 0\n", "BadText 2")
        # Of nine figures they are numbers, but the web is none.
        self.check("points 999999999\narrow 0 a 0\n", "BadWeb points")
        self.check("points 123456789\narrow 0 a 123456788\n", "BadWeb points")
        self.check("points 1\narrow 999999999 a 0\n", "BadWeb arrows")
        self.check("points 1\narrow 0 a 999999999\n", "BadWeb arrows")
        self.check("points 0\narrow 0 a 0\n", "BadWeb points")
        self.check("points 13\narrow 0 a 0\n", "BadWeb points")
        self.check("points 10\narrow 0 a 0\n", "BadWeb apart")

    def test_forms(self):
        for line in (
            "", " ", "arrow", "arrow ", "arrow 0", "arrow 0 a", "arrow 0 a ", "arrow 0 a 0 ", " arrow 0 a 0", "arrow  0 a 0",
            "arrow 0  a 0", "arrow 0 a  0", "arrow 0 a 0 0", "arrow 0 A 0", "arrow 0 ab 0", "arrow 0  0", "arrow 0 1 0",
            "ARROW 0 a 0", "arrow\t0 a 0", "arrow 0 a\t0", "arrow 0 a 0\t", "arrows 0 a 0", "arrow0 a 0", "arrow a 0 0",
            "points", "points 1", "word", "word ", "word  ab", "word ab ", " word ab", "word a b", "word aB", "word a1", "word\tab",
            "words ab", "Word ab", "~", "word ab\t", "word 1", "|",
        ):
            self.check("points 1\n" + line + "\narrow 0 a 0\n", "BadText 2")
            self.check(HEAD + line + "\n", "BadText 4")
            self.assertEqual(error_of(read_lot, F, "word ba\n" + line + "\n"), "BadText 2")
        for line in ("", " ", "points", "points ", "points  1", " points 1", "points 1 ", "points 1 1", "Points 1", "points\t1", "point 1"):
            self.check(line + "\narrow 0 a 0\n", "BadText 1")

    def test_bad_webs_and_books(self):
        self.check("points 2\narrow 0 a 0\n", "BadWeb apart")
        self.check("points 1\narrow 0 b 0\narrow 0 a 0\n", "BadWeb arrows")
        self.check("points 1\narrow 0 a 0\narrow 0 a 0\n", "BadWeb arrows")
        self.check("points 1\narrow 0 a 1\n", "BadWeb arrows")
        for words, part in (
            (("b", "a"), "words"), (("ab", "ab"), "words"), (("a" * 61,), "words"), (("c",), "stretch"), (("a", "ab"), "clash"),
            (("ab", "b"), "clash"), (("b", "c", "cc"), "stretch"),
        ):
            text = lot_text(words)
            self.check(HEAD + text, "BadText 4", "BadBook " + part)
            self.assertEqual(error_of(read_lot, F, text), "NoLot")
        self.assertEqual(error_of(read_lot, G, "word bb\n"), "NoLot")
        self.assertEqual(read_lot(G, "word b\n"), ("b",))
        self.assertEqual(read_lot(F, "word " + "a" * 60 + "\n"), ("a" * 60,))
        # A lot need not be the inner words of any book.
        self.assertEqual(read_lot(F, "word a\nword b\n"), ("a", "b"))

    def test_wrong_signs_anywhere(self):
        text = book_text(THREE)
        lines = text.split("\n")
        for at, sign in enumerate(text):
            line = text[:at].count("\n") + 1
            for other in "~\t|":
                # A line feed that is not there makes one line of two.
                self.assertEqual(error_of(read_book, text[:at] + other + text[at + 1:]), "BadText " + str(line))
        self.assertEqual(len(lines), 13)

    def test_long_texts(self):
        words = "".join("word " + word + "\n" for word in all_texts("ab", 11)[:1500])
        self.assertEqual(error_of(read_book, HEAD + words), "BadBook words")
        self.assertEqual(error_of(read_lot, F, words), "NoLot")
        self.assertEqual(error_of(read_book, HEAD + words + "word"), "BadText 1504")
        self.assertEqual(error_of(read_web, "a" * 20000), "BadText 1")
        self.assertEqual(error_of(read_web, "\n" * 20000), "BadText 1")


class EqualOnes(unittest.TestCase):
    def test_books_read_answer_alike(self):
        for book, ways, lot in FULL[::10]:
            if book.web.points > 12:
                continue
            other = read_book(book_text(book))
            self.assertEqual((inner(other), made(read_web(web_text(book.web)), read_lot(book.web, lot_text(lot)), ways)), (lot, book))
            self.assertTrue(all(is_text(word) for word in other.words))


if __name__ == "__main__":
    unittest.main()
