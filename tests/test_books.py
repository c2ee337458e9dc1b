"""Books and clashes: 3.1."""

import random
import unittest

from neverjoin.books import Book, clash
from neverjoin.errors import BadBook, NoTexts
from neverjoin.making import free_web, ring_web, rows_web
from neverjoin.readings import comings, readings
from plain import BOOKS, F, G, R, THREE, TWO, all_texts, is_text, odd_things, walk_ends


def part_of(web, words):
    try:
        Book(web, words)
    except BadBook as error:
        return error.part
    return None


def plain_clash(texts):
    """The least of all pairs of which one begins or ends the other one."""
    pairs = [(one, other) for one in texts for other in texts if one != other and (other.startswith(one) or other.endswith(one))]
    return min(pairs, default=None)


class Books(unittest.TestCase):
    def test_attributes(self):
        words = ("aa", "ab", "ba", "bb")
        book = Book(F, words)
        self.assertEqual((book.web, book.words), (F, words))
        self.assertIs(type(book.words), tuple)
        self.assertEqual(Book(F, ()).words, ())

    def test_equal_just_if_both_are(self):
        self.assertEqual(Book(free_web("ab"), ("a", "b")), Book(F, ("a", "b")))
        self.assertFalse(Book(F, ("a",)) != Book(free_web("ab"), ("a",)))
        self.assertNotEqual(Book(F, ("a",)), Book(F, ("b",)))
        self.assertNotEqual(Book(F, ("a",)), Book(G, ("a",)))
        for thing in odd_things() + [(F, ("a",)), F, ("a",)]:
            if type(thing) is not Book:
                self.assertFalse(Book(F, ("a",)) == thing)
                self.assertTrue(Book(F, ("a",)) != thing)
                self.assertFalse(thing == Book(F, ("a",)))

    def test_words_of_any_kind(self):
        for thing in odd_things():
            if type(thing) is tuple and all(is_text(item) and 1 <= len(item) <= 60 for item in thing) and len(thing) < 2:
                continue
            self.assertEqual(part_of(F, thing), "words")
            if not (is_text(thing) and 1 <= len(thing) <= 60):
                self.assertEqual(part_of(F, ("aa", thing)), "words")
                self.assertEqual(part_of(F, (thing,)), "words")

    def test_words_of_wrong_form(self):
        for words in (["ab"], ("b", "a"), ("ab", "ab"), ("",), ("", "a"), ("a", "B"), ("a", "b c"), {"a": "b"}, "ab", ("ab", ["b"]), ("c", "a")):
            self.assertEqual(part_of(F, words), "words")

    def test_sizes(self):
        self.assertIsNone(part_of(F, ("a" * 60,)))
        self.assertEqual(part_of(F, ("a" * 61,)), "words")
        self.assertEqual(part_of(F, ("a" * 400,)), "words")
        nine = tuple(all_texts("ab", 9))
        self.assertIsNone(part_of(F, nine[:400]))
        self.assertEqual(part_of(F, nine[:401]), "words")
        self.assertEqual(len(Book(F, nine[112:]).words), 400)
        self.assertEqual(part_of(G, nine[:401]), "words")

    def test_stretch_before_clash(self):
        self.assertEqual(part_of(G, ("bb",)), "stretch")
        self.assertEqual(part_of(F, ("c",)), "stretch")
        self.assertEqual(part_of(G, ("a", "ab", "bb")), "stretch")
        self.assertEqual(part_of(R, ("aab", "aba", "baa", "bb")), "stretch")
        self.assertIsNone(part_of(R, ("aab", "aba", "baa")))

    def test_clashing_words(self):
        for words in (("a", "ab"), ("ab", "b"), ("ab", "abab"), ("aa", "b", "baab"), ("a", "bab", "bba")):
            self.assertEqual(part_of(F, words), "clash")
        self.assertIsNone(part_of(F, ("ab", "ba")))
        self.assertIsNone(part_of(F, ("aba", "b")))
        self.assertEqual(part_of(F, ("a" * 59 + "b", "b")), "clash")

    def test_wide_webs(self):
        web = rows_web(["a" * 20, "b" * 20, "ab" * 10])
        self.assertIsNone(part_of(web, ("a" * 20, "b" * 20)))
        self.assertEqual(part_of(ring_web("ab"), ("aa",)), "stretch")

    def test_books_of_the_tests_are_right(self):
        for book in BOOKS:
            self.assertIsNone(plain_clash(book.words))
            self.assertTrue(all(walk_ends(book.web, word) for word in book.words))

    def test_equal_books_answer_alike(self):
        for book in (TWO, THREE):
            other = Book(free_web("ab"), tuple(list(book.words)))
            self.assertEqual(comings(book, "abba"), comings(other, "abba"))
            self.assertEqual(readings(book, "abba"), readings(other, "abba"))


class Clashes(unittest.TestCase):
    def test_ordinary_ones(self):
        self.assertEqual(clash(("ab", "b")), ("b", "ab"))
        self.assertEqual(clash(["ab", "b"]), ("b", "ab"))
        self.assertEqual(clash(["a", "ab", "aa"]), ("a", "aa"))
        self.assertIsNone(clash(()))
        self.assertIsNone(clash([]))
        self.assertIsNone(clash(("ab",)))
        self.assertIsNone(clash(("ab", "ab", "ab")))
        self.assertEqual(clash(("ba", "ab", "ab", "aba")), ("ab", "aba"))
        self.assertEqual(clash(("b", "zb", "bz", "ab")), ("b", "ab"))
        self.assertIsNone(clash(("aba", "b")))
        self.assertEqual(clash(("a" * 400, "a" * 399)), ("a" * 399, "a" * 400))

    def test_against_all_pairs(self):
        for seed in range(1500):
            source = random.Random(seed)
            texts = ["".join(source.choice("abc"[:1 + seed % 3]) for _ in range(source.randint(1, 6))) for _ in range(source.randint(0, 6))]
            self.assertEqual(clash(texts), plain_clash(texts))
            self.assertEqual(clash(tuple(texts)), plain_clash(texts))

    def test_of_what(self):
        for thing in odd_things() + [("",), ("a", ""), ["a", "B"], ("a", None), "ab", {"a": "b"}, ["a", ["b"]]]:
            if (type(thing) is list or type(thing) is tuple) and all(is_text(item) and item != "" for item in thing):
                self.assertEqual(clash(thing), plain_clash(thing) if len(thing) < 50 else None)
                continue
            with self.assertRaises(NoTexts):
                clash(thing)
            if not (is_text(thing) and thing != ""):
                with self.assertRaises(NoTexts):
                    clash(["a", "ab", thing])

    def test_what_is_passed_stays(self):
        texts = ["b", "ab", "a"]
        clash(texts)
        self.assertEqual(texts, ["b", "ab", "a"])

    def test_many_texts(self):
        texts = all_texts("ab", 13)
        self.assertIsNone(clash(texts))
        self.assertEqual(clash(texts + ["b" * 12]), ("b" * 12, "a" + "b" * 12))


if __name__ == "__main__":
    unittest.main()
