"""Books carried over: 9.1."""

import unittest

from neverjoin.books import Book
from neverjoin.carried import composed, cut_down, renamed_book, turned_book
from neverjoin.dividing import divided
from neverjoin.full import all_ways
from neverjoin.inner import inner, made, word_count
from neverjoin.lanes import lanes
from neverjoin.listing import all_books
from neverjoin.making import free_web, left_out, renamed, ring_web, rows_web, turned
from neverjoin.thin import thin
from neverjoin.tower import less, more
from neverjoin.walkers import Walker
from neverjoin.webs import Web
from plain import (
    BOOKS, EVEN, F, FORK, FULL, G, JUST, NOT_FULL, R, THREE, TWO, WEBS, error_of, odd_things, plain_full, walk_ends, walk_texts,
)

LETTERS = "abcdefghijklmnopqrstuvwxyz"
# With 6 ways of all texts of two letters, the full books of these inner words have 2000 words, and 2001.
JUST_MANY = ("aaabb", "aab", "abbb", "ba", "bbaa", "bbab", "bbbabbbb")
TOO_MANY = ("aaabaabab", "aaabb", "aab", "abaababaa", "ababbabaa", "abbb", "ba", "bbaa", "bbab", "bbbbabab")
ONE_POINT = [(book, ways) for book, ways, _ in FULL if book.web.points == 1]


def one_point(many):
    """The web of all texts over the first so many letters."""
    return Web(1, tuple((0, letter, 0) for letter in LETTERS[:many]))


def lies_within(one, other, length=9):
    """Whether all stretches up to a length of a web are stretches of another one; the webs are small."""
    return walk_texts(one, length) <= walk_texts(other, length)


class CutDown(unittest.TestCase):
    def test_against_a_listing(self):
        small = [web for web in WEBS if web.points <= 3 and len(web.arrows) <= 5][:22]
        within = 0
        for book, ways, _ in FULL:
            if book.web not in small:
                continue
            for web in small[::2] + [book.web]:
                if not lies_within(web, book.web):
                    self.assertEqual(error_of(cut_down, book, web), "NoWeb")
                    continue
                within += 1
                found = cut_down(book, web)
                self.assertEqual(found.web, web)
                self.assertEqual(found.words, tuple(word for word in book.words if walk_ends(web, word)))
                # The eighth fact.
                self.assertEqual(plain_full(web, found.words), ways)
        self.assertGreater(within, 200)

    def test_ordinary_ones(self):
        self.assertEqual(cut_down(THREE, G).words, ("aaa", "aaba", "ab", "baa", "baba"))
        self.assertEqual(cut_down(TWO, R), Book(R, ("aa", "ab", "ba")))
        self.assertEqual(cut_down(TWO, free_web("a")), Book(free_web("a"), ("aa",)))
        self.assertEqual(cut_down(THREE, ring_web("b")).words, ("bbb",))
        self.assertEqual(all_ways(cut_down(THREE, left_out("ab", ["bb", "aaa"]))), 3)

    def test_a_web_in_itself(self):
        for book, _, _ in FULL[::5]:
            self.assertEqual(cut_down(book, book.web), book)
        # Like it, but with other points.
        twice = Web(2, ((0, "a", 0), (0, "a", 1), (0, "b", 1), (1, "a", 0)))
        self.assertEqual(cut_down(made(G, ("b",), 2), twice), Book(twice, ("aa", "aba", "b")))
        self.assertEqual(cut_down(made(twice, ("b",), 2), G), made(G, ("b",), 2))

    def test_books_and_webs_of_any_size(self):
        twelve = made(free_web("abcdefghijkl"), (), 4)
        self.assertEqual(cut_down(twelve, ring_web("abcdefghijkl")).words, made(ring_web("abcdefghijkl"), (), 4).words)
        wide = rows_web(["aab" * 6, "b" * 20, "ab" * 10])
        self.assertEqual(all_ways(cut_down(THREE, wide)), 3)
        self.assertEqual(cut_down(made(F, (), 6), wide), made(wide, (), 6))
        self.assertEqual(cut_down(JUST, JUST.web), JUST)

    def test_errors_in_order(self):
        for book in NOT_FULL:
            for web in (F, G, free_web("abc"), R):
                self.assertEqual(error_of(cut_down, book, web), "NotFull")
        for web in (free_web("abc"), free_web("c"), ring_web("abc"), ring_web("z")):
            self.assertEqual(error_of(cut_down, TWO, web), "NoWeb")
        self.assertEqual(error_of(cut_down, made(G, (), 2), F), "NoWeb")
        self.assertEqual(error_of(cut_down, made(G, (), 2), EVEN), "NoWeb")
        self.assertEqual(error_of(cut_down, made(R, (), 2), G), "NoWeb")
        self.assertIsNone(error_of(cut_down, made(G, (), 2), R))


class Turned(unittest.TestCase):
    def test_words_from_behind(self):
        for book in BOOKS + [book for book, _, _ in FULL]:
            found = turned_book(book)
            self.assertEqual(found.web, turned(book.web))
            self.assertEqual(found.words, tuple(sorted(word[::-1] for word in book.words)))
            self.assertEqual(turned_book(found), book)

    def test_eighth_fact(self):
        for book, ways, _ in FULL[::3]:
            self.assertEqual(plain_full(turned(book.web), turned_book(book).words), ways)

    def test_ordinary_ones(self):
        self.assertEqual(turned_book(Book(F, ("aab", "bb"))).words, ("baa", "bb"))
        self.assertEqual(turned_book(Book(R, ())), Book(turned(R), ()))
        self.assertEqual(turned_book(Book(ring_web("abc"), ("ab", "ca"))), Book(turned(ring_web("abc")), ("ac", "ba")))
        self.assertEqual(turned_book(TWO), TWO)
        self.assertEqual(all_ways(turned_book(made(free_web("abcdefghijkl"), ("ab",), 3))), 3)


class Renamed(unittest.TestCase):
    def test_other_letters(self):
        for book in BOOKS + [book for book, _, _ in FULL[::3]]:
            signs = sorted({letter for _, letter, _ in book.web.arrows})
            # By other letters, and by one another's.
            for others in (LETTERS[-len(signs):], LETTERS[10:10 + len(signs)][::-1], "".join(signs[1:] + signs[:1])):
                names = dict(zip(signs, others))
                kept = dict(names)
                found = renamed_book(book, names)
                self.assertEqual(names, kept)
                self.assertEqual(found.web, renamed(book.web, names))
                known = sorted("".join(names[sign] for sign in word) for word in book.words)
                self.assertEqual(found.words, tuple(known))
                self.assertEqual(renamed_book(found, {other: sign for sign, other in names.items()}), book)

    def test_eighth_fact(self):
        for book, ways, _ in FULL[::5]:
            signs = sorted({letter for _, letter, _ in book.web.arrows})
            self.assertEqual(all_ways(renamed_book(book, dict(zip(signs, "zyxw")))), ways)

    def test_names(self):
        wrong = [
            {}, {"a": "b"}, {"a": "b", "b": "b"}, {"a": "b", "b": "a", "c": "c"}, {"a": "b", "c": "a"}, {"a": "b", "b": "A"},
            {"a": "b", "b": "aa"}, {"a": "b", "b": ""}, {"a": "b", "b": 1}, {"a": "b", "b": True}, {"a": "b", 1: "a"},
            {"a": "b", None: "a"}, {"a": "b", ("b",): "a"}, {"a": "b", "b": ["a"]}, [("a", "b"), ("b", "a")], ("b", "a"), "ba",
        ]
        for book in (THREE, Book(F, ()), Book(F, ("a",))):
            for names in wrong + odd_things():
                self.assertEqual(error_of(renamed_book, book, names), "NoNames")
            self.assertIsNone(error_of(renamed_book, book, {"a": "b", "b": "a"}))
        for thing in odd_things():
            if not (type(thing) is str and len(thing) == 1 and "b" <= thing <= "z"):
                self.assertEqual(error_of(renamed_book, TWO, {"a": "a", "b": thing}), "NoNames")

    def test_ordinary_ones(self):
        self.assertEqual(renamed_book(Book(G, ("aab", "ba")), {"a": "b", "b": "a"}).words, ("ab", "bba"))
        self.assertEqual(renamed_book(Book(FORK, ("ab",)), {"a": "x", "b": "c"}).web, renamed(FORK, {"a": "x", "b": "c"}))
        wide = made(rows_web(["aab" * 6, "b" * 20]), (), 3)
        self.assertEqual(renamed_book(renamed_book(wide, {"a": "b", "b": "a"}), {"b": "a", "a": "b"}), wide)


class Composed(unittest.TestCase):
    def check(self, book, other):
        texts = dict(zip(LETTERS, book.words))
        found = composed(book, other)
        self.assertEqual(found.web, book.web)
        self.assertEqual(found.words, tuple(sorted("".join(texts[sign] for sign in word) for word in other.words)))
        return found

    def test_against_words_put_together(self):
        many = 0
        for book, ways in ONE_POINT:
            if len(book.words) > 12:
                continue
            web = one_point(len(book.words))
            for other_ways in (1, 2, 3):
                other = made(web, (), other_ways)
                if len(other.words) <= 400:
                    many += 1
                    found = self.check(book, other)
                    # The eighth fact.
                    self.assertEqual(all_ways(found), ways * other_ways)
        self.assertGreater(many, 20)

    def test_small_ones_by_the_definition(self):
        for book in all_books(F, 2) + all_books(F, 1):
            for other_ways in (1, 2):
                for other in all_books(one_point(len(book.words)), other_ways):
                    found = self.check(book, other)
                    self.assertEqual(plain_full(F, found.words), all_ways(book) * other_ways)
        for other in all_books(F, 3):
            self.assertEqual(composed(Book(F, ("a", "b")), other), other)
        self.assertEqual(plain_full(free_web("a"), composed(Book(free_web("a"), ("aaa",)), Book(free_web("a"), ("aa",))).words), 6)

    def test_ordinary_ones(self):
        four = free_web("abcd")
        self.assertEqual(composed(TWO, made(four, (), 1)), TWO)
        self.assertEqual(composed(TWO, made(four, (), 2)), made(F, (), 4))
        other = made(four, ("ab",), 3)
        self.assertIn("aaab", composed(TWO, other).words)
        self.assertEqual(all_ways(composed(TWO, other)), 6)
        # The letters of the web may be any ones; those of the other web are the first ones.
        book = Book(free_web("xz"), ("x", "z"))
        self.assertEqual(composed(book, THREE).words, tuple(word.replace("a", "x").replace("b", "z") for word in THREE.words))
        long_one = Book(free_web("a"), ("a" * 60,))
        self.assertEqual(composed(long_one, long_one).words, ("a" * 3600,))
        self.assertEqual(composed(composed(long_one, long_one), long_one).words, ("a" * 216000,))

    def test_long_words(self):
        one = free_web("a")
        long_one = composed(Book(one, ("a" * 60,)), Book(one, ("a" * 60,)))
        self.assertEqual((all_ways(long_one), inner(long_one), less(long_one).words), (3600, (), ("a" * 3599,)))
        self.assertEqual(error_of(thin, long_one), "TooMany 2000")
        self.assertEqual(error_of(more, long_one), "TooMany 2000")
        self.assertEqual(lanes(long_one, "aaa"), [((0,), 1200), ((1,), 1200), ((2,), 1200)])
        self.assertEqual(divided(long_one, Book(one, ("a" * 50,))).words, ("a" * 72,))
        walker = Walker(long_one)
        self.assertEqual([walker.take("a") for _ in range(3601)][-3:], [None, "a" * 3600, "a" * 3600])
        self.assertEqual(walker.many(), 3600)
        just = composed(Book(one, ("a" * 29,)), composed(Book(one, ("aaa",)), Book(one, ("a" * 23,))))
        self.assertEqual((len(thin(just)), word_count(just)), (2000, (2001, 0, 1)))
        over = composed(Book(one, ("a" * 11,)), composed(Book(one, ("a" * 13,)), Book(one, ("a" * 14,))))
        self.assertEqual((error_of(thin, over), error_of(word_count, over)), ("TooMany 2000", "TooMany 2000"))

    def test_most_words(self):
        letters = Book(F, ("a", "b"))
        just = made(F, JUST_MANY, 6)
        self.assertEqual(len(just.words), 2000)
        self.assertEqual(composed(letters, just), just)
        over = made(F, TOO_MANY, 6)
        self.assertEqual(len(over.words), 2001)
        self.assertEqual(error_of(composed, letters, over), "TooMany 2000")
        twelve = made(free_web("abcdefghijkl"), (), 4)
        self.assertEqual(error_of(composed, made(free_web("abcdefghijkl"), (), 1), twelve), "TooMany 2000")
        self.assertEqual(len(composed(made(free_web("abcdefghijkl"), (), 1), made(free_web("abcdefghijkl"), (), 3)).words), 1728)

    def test_books_of_26_words_and_of_27(self):
        book = [one for one in all_books(F, 4) if len(one.words) == 26][0]
        other = made(one_point(26), (), 2)
        self.assertEqual(len(other.words), 676)
        self.assertEqual(all_ways(self.check(book, other)), 8)
        # There is no web with as many letters as 27 words.
        for web in (one_point(26), free_web("abc"), F):
            self.assertEqual(error_of(composed, made(free_web("abc"), (), 3), made(web, (), 1)), "NoLetters")

    def test_errors_in_order(self):
        for book in NOT_FULL:
            for other in (TWO, book, Book(F, ())):
                self.assertEqual(error_of(composed, book, other), "NotFull")
                self.assertEqual(error_of(composed, other, book), "NotFull")
        ring = made(ring_web("ab"), (), 2)
        self.assertEqual(error_of(composed, ring, made(F, (), 2)), "NoWeb")
        self.assertEqual(error_of(composed, made(G, (), 1), made(ring_web("ab"), (), 1)), "NoWeb")
        self.assertEqual(error_of(composed, made(G, (), 1), made(F, (), 2)), "NoWeb")
        twice = Web(2, ((0, "a", 1), (0, "b", 1), (1, "a", 0), (1, "b", 0)))
        for other in (
            made(F, (), 2), made(free_web("abce"), (), 1), made(free_web("abcde"), (), 1), made(free_web("bcde"), (), 1),
            made(free_web("abc"), (), 1), ring, made(ring_web("abcd"), (), 1),
        ):
            self.assertEqual(error_of(composed, TWO, other), "NoLetters")
        # All texts come in this web too, but it is not the free web.
        self.assertEqual(error_of(composed, Book(F, ("a", "b")), made(twice, (), 2)), "NoLetters")
        self.assertEqual(error_of(composed, made(twice, (), 1), Book(F, ("a", "b"))), "NoWeb")
        self.assertEqual(error_of(composed, made(twice, (), 1), made(free_web("abc"), (), 1)), "NoWeb")
        self.assertEqual(error_of(composed, Book(free_web("b"), ("b",)), made(free_web("abcdefghijkl"), (), 4)), "NoLetters")
        self.assertEqual(error_of(composed, made(twice, (), 1), made(free_web("abcdefghijkl"), (), 4)), "NoWeb")


if __name__ == "__main__":
    unittest.main()
