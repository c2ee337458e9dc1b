"""Exchanges and paths: 8.1, 8.2."""

import unittest

from neverjoin.books import Book
from neverjoin.exchanges import exchanges, is_path, path, put_in, taken_out
from neverjoin.full import all_ways
from neverjoin.inner import inner, made
from neverjoin.listing import all_books
from neverjoin.making import free_web, ring_web, rows_web
from neverjoin.webs import Web
from plain import (
    EVEN, F, FIFTEEN, FORK, FULL, G, JUST, NOT_FULL, OVER, R, THREE, TWO, clash_free, error_of, is_text, odd_things, plain_made,
    stretches_up_to, walk_ends,
)


def plain_exchange(book, ways, lot):
    """The words of the full book with these inner words, None if there is none."""
    lot = tuple(sorted(lot))
    if len(set(lot)) < len(lot) or "" in lot or not clash_free(lot) or not all(walk_ends(book.web, word) for word in lot):
        return None
    return plain_made(book.web, lot, ways)


def fewest(books):
    """The dict from pairs of lots to the fewest exchanges from the one to the other, going along them one by one."""
    lots = [frozenset(inner(book)) for book in books]
    beside = {lot: [other for other in lots if len(lot ^ other) == 1] for lot in lots}
    found = {}
    for start in lots:
        level, many = {start}, 0
        while level:
            for lot in level:
                found[(start, lot)] = many
            level = {other for lot in level for other in beside[lot] if (start, other) not in found}
            many += 1
    return found


def gone(one, steps):
    """The book to which a row of exchanges leads, each one made by itself."""
    book = one
    for kind, text in steps:
        book = put_in(book, text) if kind == "in" else taken_out(book, text)
    return book


class Exchanges(unittest.TestCase):
    def test_one_by_one(self):
        many = 0
        for book, ways, lot in FULL:
            for text in stretches_up_to(book.web, 3 if book.web.points < 3 else 2) + ["", "c", "abab"]:
                words = None if text in lot else plain_exchange(book, ways, lot + (text,))
                if words is None:
                    self.assertEqual(error_of(put_in, book, text), "NoExchange")
                else:
                    many += 1
                    self.assertEqual(put_in(book, text), Book(book.web, words))
            known = []
            for text in sorted(set(lot) | {"a", "ab", "", "c"}):
                words = plain_exchange(book, ways, set(lot) - {text}) if text in lot else None
                if words is None:
                    self.assertEqual(error_of(taken_out, book, text), "NoExchange")
                else:
                    known.append(("out", text))
                    self.assertEqual(taken_out(book, text), Book(book.web, words))
            self.assertEqual(exchanges(book), known)
        self.assertGreater(many, 50)

    def test_of_all_books(self):
        for web, ways in ((F, 4), (G, 4), (R, 4), (EVEN, 3), (FORK, 3), (ring_web("abc"), 3)):
            books = {inner(book): book for book in all_books(web, ways)}
            for lot, book in books.items():
                fewer = [tuple(word for word in lot if word != text) for text in lot]
                known = [("out", text) for text, other in zip(lot, fewer) if other in books]
                self.assertEqual(exchanges(book), known)
                for _, text in known:
                    other = taken_out(book, text)
                    self.assertEqual(other, books[tuple(word for word in lot if word != text)])
                    self.assertEqual(put_in(other, text), book)

    def test_ordinary_ones(self):
        self.assertEqual(exchanges(THREE), [("out", "ab")])
        self.assertEqual(exchanges(TWO), [])
        self.assertEqual(taken_out(THREE, "ab"), made(F, (), 3))
        self.assertEqual(put_in(made(F, (), 3), "ab"), THREE)
        self.assertEqual(put_in(made(G, (), 2), "b"), made(G, ("b",), 2))
        # Without ab the word aabb has too many readings.
        book = made(F, ("aabb", "ab"), 4)
        self.assertEqual(error_of(taken_out, book, "ab"), "NoExchange")
        self.assertEqual(exchanges(book), [("out", "aabb")])
        self.assertEqual(error_of(put_in, made(F, ("ab",), 3), "ba"), "NoExchange")

    def test_no_exchange_whatever_the_text_is(self):
        book = made(F, ("ab",), 4)
        for thing in odd_things() + ["", "c", "a", "b", "ab", "aba", "bab", "abab", "a" * 400, "aab", "abb", "A"]:
            if not (is_text(thing) and plain_exchange(book, 4, ("ab", thing)) is not None):
                self.assertEqual(error_of(put_in, book, thing), "NoExchange")
            if thing != "ab":
                self.assertEqual(error_of(taken_out, book, thing), "NoExchange")
            self.assertEqual(error_of(taken_out, TWO, thing), "NoExchange")
        self.assertEqual(error_of(put_in, made(G, (), 3), "bb"), "NoExchange")

    def test_long_words(self):
        book = Book(free_web("a"), ("a" * 60,))
        self.assertEqual((error_of(put_in, book, "a"), exchanges(book)), ("NoExchange", []))
        # A ring has just one text of each length from a place on.
        ring = ring_web("abc")
        long_word = ("abc" * 30)[:80]
        self.assertEqual(error_of(put_in, made(ring, (), 6), long_word), "NoExchange")
        book = Book(ring, tuple(sorted(("abc" * 21)[at:at + 60] for at in range(3))))
        self.assertEqual(all_ways(book), 60)
        other = put_in(book, "ab")
        self.assertEqual((inner(other), all_ways(other)), (("ab",), 60))
        self.assertGreater(max(len(word) for word in other.words), 60)
        self.assertEqual(taken_out(other, "ab"), book)
        text = ("abc" * 20)[:58]
        self.assertEqual(inner(put_in(book, text)), (text,))
        self.assertEqual(error_of(put_in, book, text + "bc"), "NoExchange")

    def test_errors(self):
        for book in NOT_FULL:
            for thing in ("ab", "a", None, ""):
                self.assertEqual(error_of(put_in, book, thing), "NotFull")
                self.assertEqual(error_of(taken_out, book, thing), "NotFull")
            self.assertEqual(error_of(exchanges, book), "NotFull")
        # Just 2000 stretches lie within the words of this book; of that with a further inner word there are more.
        text = JUST.words[0][:5]
        self.assertEqual(error_of(put_in, JUST, text), "TooMany 2000")
        self.assertEqual(error_of(put_in, OVER, OVER.words[0][:5]), "TooMany 2000")
        self.assertEqual(error_of(put_in, OVER, ""), "NoExchange")
        self.assertEqual(exchanges(OVER), [])
        twelve = made(free_web("abcdefghijkl"), (), 4)
        self.assertEqual(inner(put_in(twelve, "ab")), ("ab",))
        self.assertEqual(taken_out(put_in(twelve, "ab"), "ab"), twelve)

    def test_lists_are_new(self):
        first = exchanges(THREE)
        first.append(0)
        self.assertEqual(exchanges(Book(free_web("ab"), tuple(list(THREE.words)))), [("out", "ab")])
        self.assertIs(type(exchanges(THREE)[0]), tuple)


class Paths(unittest.TestCase):
    def test_as_few_as_any(self):
        for web, ways in ((F, 3), (G, 4), (R, 4), (EVEN, 3), (FORK, 3), (ring_web("abc"), 3)):
            books = all_books(web, ways)
            known = fewest(books)
            for one in books[::3]:
                for other in books:
                    steps = path(one, other)
                    self.assertIs(type(steps), list)
                    self.assertEqual(len(steps), known[(frozenset(inner(one)), frozenset(inner(other)))])
                    self.assertEqual(gone(one, steps), other)
                    self.assertIs(is_path(one, other, steps), True)
                    self.assertIs(is_path(one, other, tuple(steps)), True)
        books = all_books(F, 4)
        known = fewest(books)
        for at, one in enumerate(books):
            other = books[-1 - at]
            steps = path(one, other)
            self.assertEqual(len(steps), known[(frozenset(inner(one)), frozenset(inner(other)))])
            self.assertIs(is_path(one, other, steps), True)

    def test_seventh_fact(self):
        for web, ways in ((F, 4), (G, 4), (EVEN, 4), (ring_web("abcd"), 3)):
            books = all_books(web, ways)
            self.assertTrue(all(path(books[0], other) is not None for other in books))

    def test_ordinary_ones(self):
        uniform = made(F, (), 3)
        self.assertEqual(path(THREE, uniform), [("out", "ab")])
        self.assertEqual(path(uniform, THREE), [("in", "ab")])
        self.assertEqual(path(THREE, THREE), [])
        self.assertEqual(path(THREE, made(F, ("ba",), 3)), [("out", "ab"), ("in", "ba")])
        self.assertEqual(path(Book(free_web("a"), ("a" * 6,)), Book(free_web("a"), ("a" * 6,))), [])

    def test_errors_in_order(self):
        for book in NOT_FULL:
            for other in NOT_FULL + [TWO]:
                self.assertEqual(error_of(path, book, other), "NotFull")
                self.assertEqual(error_of(path, other, book), "NotFull")
                self.assertEqual(error_of(is_path, book, other, []), "NotFull")
                self.assertEqual(error_of(is_path, other, book, None), "NotFull")
        seven = Book(free_web("a"), ("a" * 7,))
        self.assertEqual(error_of(path, TWO, THREE), "NoPath")
        self.assertEqual(error_of(path, TWO, made(G, (), 2)), "NoPath")
        self.assertEqual(error_of(path, seven, Book(free_web("a"), ("a" * 8,))), "NoPath")
        self.assertEqual(error_of(path, seven, seven), "TooMany 6")
        self.assertEqual(error_of(path, JUST, JUST), "TooMany 6")
        self.assertEqual(error_of(path, made(FIFTEEN, (), 2), made(FIFTEEN, (), 2)), "TooMany 14")
        self.assertEqual(error_of(path, made(FIFTEEN, (), 1), made(FIFTEEN, (), 1)), None)
        self.assertEqual(error_of(path, made(F, (), 5), made(F, ("ab",), 5)), "TooMany 14")
        self.assertEqual(error_of(path, made(ring_web("abcdefghijk"), (), 2), made(ring_web("abcdefghijk"), (), 2)), "TooMany 2000")
        # Webs with the same stretches are unlike all the same.
        twice = Web(2, ((0, "a", 0), (0, "a", 1), (0, "b", 1), (1, "a", 0)))
        self.assertEqual(error_of(path, made(G, (), 2), made(twice, (), 2)), "NoPath")


class IsPath(unittest.TestCase):
    def test_longer_ones(self):
        uniform = made(F, (), 3)
        out, into = ("out", "ab"), ("in", "ab")
        for many in range(5):
            self.assertIs(is_path(uniform, uniform, [into, out] * many), True)
            self.assertIs(is_path(uniform, THREE, [into, out] * many + [into]), True)
            self.assertIs(is_path(uniform, THREE, [into, out] * many), False)
            self.assertIs(is_path(THREE, uniform, [into] + [out, into] * many), False)
        self.assertIs(is_path(uniform, uniform, [into, out] * 5000), True)
        self.assertIs(is_path(uniform, uniform, ([into, out] * 5000)[1:]), False)
        self.assertIs(is_path(THREE, made(F, ("ba",), 3), (out, ("in", "ba"))), True)
        self.assertIs(is_path(THREE, made(F, ("ba",), 3), (("in", "ba"), out)), False)
        self.assertIs(is_path(TWO, TWO, [("in", "ab"), ("out", "ab")]), False)

    def test_against_exchanges_one_by_one(self):
        texts = ["a", "b", "ab", "ba", "aab", "", "c"]
        for book, ways, lot in FULL[::2]:
            for first in [(kind, text) for kind in ("in", "out") for text in texts]:
                lots = set(lot) | {first[1]} if first[0] == "in" else set(lot) - {first[1]}
                right = (first[1] in lot) == (first[0] == "out")
                words = plain_exchange(book, ways, lots) if right else None
                self.assertIs(is_path(book, book, [first]), False)
                if words is None:
                    self.assertIs(is_path(book, book, [first, ({"in": "out", "out": "in"}[first[0]], first[1])]), False)
                else:
                    self.assertIs(is_path(book, Book(book.web, words), [first]), True)
                    self.assertIs(is_path(book, book, [first, ({"in": "out", "out": "in"}[first[0]], first[1])]), True)

    def test_webs_or_ways_that_are_unlike(self):
        self.assertIs(is_path(TWO, THREE, []), False)
        self.assertIs(is_path(made(G, (), 2), TWO, []), False)
        self.assertIs(is_path(TWO, made(F, (), 2), ()), True)
        self.assertIs(is_path(TWO, THREE, [("in", "ab")]), False)
        twice = Web(2, ((0, "a", 0), (0, "a", 1), (0, "b", 1), (1, "a", 0)))
        self.assertIs(is_path(made(G, (), 2), made(twice, (), 2), []), False)
        self.assertIs(is_path(made(G, (), 2), made(Web(2, G.arrows), (), 2), []), True)

    def test_books_too_large_to_list(self):
        self.assertIs(is_path(made(F, (), 5), made(F, ("ab",), 5), [("in", "ab")]), True)
        self.assertIs(is_path(JUST, JUST, []), True)
        self.assertIs(is_path(made(F, ("ab",), 6), made(F, ("ba",), 6), [("out", "ab"), ("in", "ba")]), True)
        wide = rows_web(["aab" * 6, "b" * 20, "ab" * 10])
        self.assertIs(is_path(made(wide, (), 4), made(wide, ("aab",), 4), [("in", "aab")]), True)

    def test_of_anything(self):
        uniform = made(F, (), 3)
        for thing in odd_things():
            empty = type(thing) in (list, tuple) and len(thing) == 0
            self.assertIs(is_path(THREE, THREE, thing), empty)
            self.assertIs(is_path(THREE, uniform, thing), False)
            self.assertIs(is_path(THREE, uniform, [thing]), False)
            self.assertIs(is_path(THREE, uniform, [("out", "ab"), thing]), False)
            self.assertIs(is_path(THREE, uniform, [("out", thing)]), is_text(thing) and thing == "ab")
            self.assertIs(is_path(THREE, uniform, [(thing, "ab")]), False)
            self.assertIs(is_path(uniform, THREE, (("in", thing),)), is_text(thing) and thing == "ab")
        for thing in ([["out", "ab"]], [("out", "ab", "ab")], [("out",)], ("out", "ab"), {"out": "ab"}, [("OUT", "ab")], [("Out", "ab")]):
            self.assertIs(is_path(THREE, uniform, thing), False)
        self.assertIs(is_path(THREE, uniform, [("out", "ab")]), True)
        self.assertIs(is_path(THREE, uniform, (("out", "ab"),)), True)

    def test_what_is_passed_stays(self):
        steps = [("out", "ab")]
        is_path(THREE, made(F, (), 3), steps)
        self.assertEqual(steps, [("out", "ab")])
        first = path(THREE, made(F, (), 3))
        first.append(0)
        self.assertEqual(path(THREE, made(F, (), 3)), [("out", "ab")])


if __name__ == "__main__":
    unittest.main()
