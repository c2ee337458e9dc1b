"""Inner words: 6.1 to 6.3."""

import random
import unittest

from neverjoin.books import Book
from neverjoin.full import all_ways
from neverjoin.inner import barred, inner, is_barred, made, word_count
from neverjoin.making import free_web, left_out, ring_web, rows_web
from neverjoin.stretches import is_ring, rings
from neverjoin.thin import thin
from neverjoin.webs import Web, surplus
from plain import (
    BOOKS, EVEN, F, FULL, G, JUST, NOT_FULL, OVER, R, THREE, TWO, WEBS, all_texts, clash_free, drawn_lot, error_of, inner_of,
    is_plain_integer, is_text, odd_things, plain_full, plain_made, plain_ways, stretches_up_to, walk_ends,
)

TWELVE = free_web("abcdefghijkl")
# Of the stretches of up to four letters there are just 2000 here, and one more than that.
EIGHT = Web(2, (
    (0, "a", 0), (0, "c", 0), (0, "d", 1), (0, "e", 0), (0, "f", 0), (0, "f", 1), (0, "g", 0), (0, "g", 1), (1, "a", 0),
    (1, "e", 0), (1, "e", 1), (1, "f", 1), (1, "h", 0), (1, "h", 1),
))
WIDER = Web(2, (
    (0, "a", 1), (0, "b", 1), (0, "c", 1), (0, "e", 0), (0, "e", 1), (0, "h", 1), (1, "a", 0), (1, "b", 1), (1, "c", 1),
    (1, "d", 0), (1, "d", 1), (1, "e", 0), (1, "f", 1),
))


def covers(lot, ring):
    """Whether at each place of a ring, gone round endlessly, a word of a lot ends."""
    text = ring * (60 // len(ring) + 2)
    return all(any(text[:at].endswith(word) for word in lot) for at in range(len(text) - len(ring), len(text)))


def is_bar(web, lot, ways, thing):
    """Whether a thing is a pair that bars a lot, by the words of the document."""
    if type(thing) is not tuple or len(thing) != 2 or not is_text(thing[1]):
        return False
    if thing[0] == "word":
        return thing[1] in lot and plain_ways(lot, thing[1]) >= ways
    return thing[0] == "ring" and is_ring(web, thing[1]) and covers(lot, thing[1])


class Inner(unittest.TestCase):
    def test_which_words_lie_within_others(self):
        for book in BOOKS + [book for book, _, _ in FULL]:
            self.assertEqual(inner(book), inner_of(book.words))

    def test_fourth_fact(self):
        for book, many, lot in FULL:
            self.assertEqual(inner(book), lot)
            self.assertEqual(lot, tuple(word for word in book.words if plain_ways(book.words, word) < many))

    def test_edges(self):
        self.assertEqual(inner(Book(F, ())), ())
        self.assertEqual(inner(Book(F, ("aba", "b"))), ("b",))
        self.assertEqual(inner(Book(F, ("ab", "bb"))), ())
        self.assertEqual(inner(Book(F, ("a" + "b" * 58 + "a", "b" * 58))), ("b" * 58,))
        # A word that begins or ends in another one's letters, but not strictly within it.
        self.assertEqual(inner(Book(F, ("aab", "aba"))), ())
        self.assertEqual(inner(Book(free_web("abc"), ("a", "bac", "cbabb"))), ("a",))
        self.assertEqual(inner(JUST), ())
        self.assertIs(type(inner(THREE)), tuple)


class Made(unittest.TestCase):
    def check(self, web, lot, ways):
        known = plain_made(web, lot, ways)
        book = made(web, lot, ways)
        bar = barred(web, lot, ways)
        if known is None:
            self.assertIsNone(book)
            self.assertTrue(is_bar(web, lot, ways, bar), (web.arrows, lot, ways, bar))
            self.assertIs(is_barred(web, lot, ways, bar), True)
        else:
            self.assertEqual((book.web, book.words), (web, known))
            self.assertIs(type(book), Book)
            self.assertIsNone(bar)
        for thing in self.things(web, lot):
            self.assertIs(is_barred(web, lot, ways, thing), is_bar(web, lot, ways, thing))
        return known is not None

    def things(self, web, lot):
        return (
            [("word", word) for word in lot] + [("word", "a"), ("word", "ab"), ("ring", ""), None, ("ring", "a"), "ring"]
            + [("ring", ring) for size in (1, 2, 3) for ring in rings(web, size)[:4]]
        )

    def test_drawn_lots(self):
        many = [0, 0]
        for seed in range(700):
            source = random.Random(seed)
            web = WEBS[seed % len(WEBS)]
            signs = len({letter for _, letter, _ in web.arrows})
            many[self.check(web, drawn_lot(source, web), source.randint(1, 4 if signs < 3 else 3))] += 1
        self.assertGreater(min(many), 100)

    def test_all_lots_of_short_words(self):
        # With d ways of all texts of two letters: as many lots as there are books, no inner word being longer than this.
        texts = [text for text in stretches_up_to(F, 3) if text]
        found = [()]
        for text in texts:
            found += [lot + (text,) for lot in found if clash_free(lot + (text,))]
        lots = [tuple(sorted(lot)) for lot in found]
        for ways, many in ((1, 1), (2, 1), (3, 3)):
            self.assertEqual(sum(made(F, lot, ways) is not None for lot in lots), many)
        self.assertEqual(sum(self.check(G, lot, 3) for lot in lots if all(walk_ends(G, word) for word in lot)), 4)

    def test_full_books(self):
        for book, ways, lot in FULL:
            self.assertEqual(made(book.web, lot, ways), book)
            self.assertIsNone(barred(book.web, lot, ways))
            for thing in self.things(book.web, lot):
                self.assertIs(is_barred(book.web, lot, ways, thing), False)

    def test_ordinary_ones(self):
        self.assertEqual(made(F, ("ab",), 3), THREE)
        self.assertEqual(made(F, (), 2), TWO)
        self.assertEqual(made(F, (), 1).words, ("a", "b"))
        self.assertIsNone(made(F, ("a",), 1))
        self.assertEqual(barred(F, ("a",), 1), ("word", "a"))
        kind, ring = barred(F, ("a",), 2)
        self.assertEqual((kind, set(ring)), ("ring", {"a"}))
        self.assertIsNone(made(F, ("a",), 2))
        self.assertEqual(made(G, ("b",), 2).words, ("aa", "aba", "b"))
        self.assertEqual(made(free_web("a"), (), 6).words, ("aaaaaa",))

    def test_the_empty_lot(self):
        for web in WEBS:
            self.assertIsNone(barred(web, (), 1))
            self.assertIs(is_barred(web, (), 1, ("ring", "a")), False)
            self.assertEqual("".join(made(web, (), 1).words), "".join(sorted({letter for _, letter, _ in web.arrows})))

    def test_ways(self):
        for ways in (1, 6):
            self.assertEqual(all_ways(made(F, (), ways)), ways)
        lot = ("ab",)
        for thing in [0, 7, -1, 10 ** 39] + [thing for thing in odd_things() if not is_plain_integer(thing)]:
            for function in (made, barred):
                self.assertEqual(error_of(function, F, lot, thing), "NoNumber")
                self.assertEqual(error_of(function, F, ("b", "a"), thing), "NoLot")
            self.assertEqual(error_of(is_barred, F, lot, thing, ("word", "ab")), "NoNumber")
            self.assertEqual(error_of(is_barred, F, ("b", "a"), thing, None), "NoLot")

    def test_words_with_as_many_readings_as_the_ways(self):
        self.assertEqual(barred(F, ("ab",), 2), ("word", "ab"))
        self.assertIsNone(barred(F, ("ab",), 3))
        self.assertIs(is_barred(F, ("ab",), 2, ("word", "ab")), True)
        self.assertIs(is_barred(F, ("ab",), 3, ("word", "ab")), False)
        self.assertIs(is_barred(F, ("ab",), 2, ("word", "ba")), False)
        # The word that lies within it takes one reading of aaba away.
        self.assertEqual(barred(F, ("aaab",), 4), ("word", "aaab"))
        self.assertIsNone(barred(F, ("aaab",), 5))
        self.assertEqual(barred(F, ("abab", "baba"), 4), ("word", "abab"))
        self.assertIsNone(barred(F, ("aabb", "ab"), 4))
        self.assertIsNone(barred(F, ("aabb", "ab"), 5))
        self.assertEqual(barred(F, ("aabb", "ab"), 3), ("word", "aabb"))

    def test_rings_that_are_covered(self):
        for lot, ring in ((("ab", "ba"), "ab"), (("aab", "aba", "baa"), "aab"), (("b",), "b"), (("aaa",), "a"), (("a", "bb"), "a")):
            kind, found = barred(F, lot, 6)
            self.assertEqual(kind, "ring")
            self.assertTrue(covers(lot, found))
            for many in (1, 2, 5):
                self.assertIs(is_barred(F, lot, 6, ("ring", ring * many)), True)
            self.assertIs(is_barred(F, lot, 6, ("ring", ring + "abb")), False)
            self.assertIsNone(made(F, lot, 6))
        self.assertIs(is_barred(F, ("a",), 6, ("ring", "a" * 400)), True)
        self.assertIs(is_barred(F, ("a",), 6, ("ring", "a" * 399 + "b")), False)
        # A word that goes round several times.
        self.assertIs(is_barred(F, ("a" * 60,), 6, ("ring", "a")), True)
        self.assertEqual(barred(free_web("a"), ("aaa",), 4)[0], "ring")
        # No ring of this web is covered by what covers one of all texts.
        self.assertIsNone(barred(G, ("b",), 2))
        self.assertIs(is_barred(G, ("b",), 2, ("ring", "b")), False)
        self.assertEqual(barred(ring_web("ab"), ("ab", "ba"), 3)[0], "ring")
        self.assertIsNone(barred(ring_web("abc"), ("ab", "bc"), 3))

    def test_lots(self):
        nine = tuple(all_texts("ab", 9))
        self.assertEqual(barred(F, nine[112:], 6)[0], "word")
        self.assertEqual(len(nine[112:]), 400)
        for lot in (
            nine[111:], ["ab"], ("b", "a"), ("a", "a"), ("",), ("a", "ab"), ("b", "ab"), ("a" * 61,), ("c",), "ab", None,
            {"ab": "a"}, ("a", "B"), ("a", ("b",)),
        ):
            self.assertEqual(error_of(made, F, lot, 6), "NoLot")
            self.assertEqual(error_of(barred, F, lot, 6), "NoLot")
            self.assertEqual(error_of(is_barred, F, lot, 6, ("word", "a")), "NoLot")
        self.assertEqual(error_of(made, G, ("bb",), 3), "NoLot")
        self.assertIsNone(error_of(barred, F, ("a" * 60,), 6))
        for thing in odd_things():
            if thing == () or thing == ("a",):
                continue
            self.assertEqual(error_of(made, F, thing, 6), "NoLot")
            self.assertEqual(error_of(barred, F, thing, None), "NoLot")
            self.assertEqual(error_of(is_barred, F, thing, 6, None), "NoLot")
            if not (is_text(thing) and 1 <= len(thing) <= 60):
                self.assertEqual(error_of(made, F, (thing,), 6), "NoLot")

    def test_many_words(self):
        rising = tuple(text for text in all_texts("abcdefghijkl", 3) if text[0] < text[1])[:400]
        self.assertEqual(len(rising), 400)
        self.assertIsNone(barred(TWELVE, rising, 4))
        self.assertEqual(barred(TWELVE, rising, 3), ("word", rising[0]))
        self.assertEqual(error_of(made, TWELVE, rising[:-1] + ("aaaa", "llll"), 4), "NoLot")
        few = tuple(text for text in all_texts("abcdefghijkl", 2) if text[0] < text[1])
        book = made(TWELVE, few[:20], 3)
        self.assertEqual((inner(book), all_ways(book)), (few[:20], 3))

    def test_too_many_stretches_within(self):
        # Readings by the empty lot are one more than the letters.
        for web, many in ((EIGHT, 2000), (WIDER, 2001)):
            self.assertEqual(len(stretches_up_to(web, 4)), many)
        book = made(EIGHT, (), 6)
        self.assertEqual((all_ways(book), {len(word) for word in book.words}), (6, {6}))
        self.assertEqual(len(thin(book)), 2000)
        self.assertEqual(error_of(made, WIDER, (), 6), "TooMany 2000")
        self.assertIsNone(error_of(barred, WIDER, (), 6))
        self.assertEqual(len(made(TWELVE, (), 4).words), 20736)
        self.assertEqual(error_of(made, TWELVE, (), 6), "TooMany 2000")
        # None is told first.
        self.assertIsNone(made(TWELVE, ("a",), 6))
        self.assertIsNone(made(WIDER, ("d",), 6))
        self.assertIsNone(made(WIDER, ("ehcb",), 4))

    def test_books_of_any_size(self):
        for web in (rows_web(["aab" * 6, "b" * 20, "ab" * 10]), left_out("abc", ("aa", "bcb", "cc"))):
            book = made(web, (), 3)
            self.assertEqual((all_ways(book), inner(book)), (3, ()))
        wide = made(rows_web(["aab" * 6, "b" * 20, "ab" * 10]), ("aab",), 5)
        self.assertEqual((all_ways(wide), inner(wide)), (5, ("aab",)))

    def test_is_barred_of_anything(self):
        for lot in ((), ("a",), ("ab", "ba")):
            for thing in odd_things():
                self.assertIs(is_barred(F, lot, 2, thing), False)
                self.assertIs(is_barred(F, lot, 2, ("ring", thing)), is_bar(F, lot, 2, ("ring", thing)))
                self.assertIs(is_barred(F, lot, 2, ("word", thing)), is_bar(F, lot, 2, ("word", thing)))
                self.assertIs(is_barred(F, lot, 2, (thing, "a")), False)
        self.assertIs(is_barred(F, ("a",), 2, ["ring", "a"]), False)
        self.assertIs(is_barred(F, ("a",), 2, ("ring", "a", "a")), False)
        self.assertIs(is_barred(F, ("a",), 2, ("ring", "a")), True)
        self.assertIs(is_barred(F, ("a",), 2, None), False)

    def test_equal_calls(self):
        for book, ways, lot in FULL[:60]:
            self.assertEqual(made(book.web, lot, ways), made(book.web, tuple(list(lot)), ways))


class WordCount(unittest.TestCase):
    def test_fifth_fact(self):
        for book, many, _ in FULL:
            ways, total, number = word_count(book)
            size = max(len(word) for word in book.words)
            known = 0
            for text in stretches_up_to(book.web, size - 1):
                if plain_ways(book.words, text) < many:
                    known += (many - plain_ways(book.words, text)) * surplus(book.web, text)
            self.assertEqual((ways, total, number), (many, known, len(book.words)))
            self.assertIs(type(word_count(book)), tuple)

    def test_ordinary_ones(self):
        self.assertEqual(word_count(THREE), (3, 5, 9))
        self.assertEqual(word_count(TWO), (2, 1, 4))
        self.assertEqual(word_count(Book(F, ("a", "b"))), (1, 0, 2))
        self.assertEqual(word_count(Book(R, ("a", "b"))), (1, 0, 2))
        self.assertEqual(word_count(made(EVEN, (), 3)), (3, 3, 7))
        self.assertEqual(plain_full(EVEN, made(EVEN, (), 3).words), 3)

    def test_most(self):
        self.assertEqual(word_count(JUST)[2], len(JUST.words))
        self.assertEqual(error_of(word_count, OVER), "TooMany 2000")
        self.assertEqual(word_count(made(TWELVE, (), 4))[2], 20736)

    def test_books_that_are_not_full(self):
        for book in NOT_FULL:
            self.assertEqual(error_of(word_count, book), "NotFull")


if __name__ == "__main__":
    unittest.main()
