"""Full books, addable and loose stretches, misfits: 4.1 to 4.3."""

import random
import unittest

from neverjoin.books import Book, clash
from neverjoin.full import addable, all_ways, is_addable, is_full, is_loose, is_misfit, loose, misfit
from neverjoin.inner import made
from neverjoin.making import free_web, ring_web, rows_web
from plain import (
    BOOKS, F, FULL, G, R, THREE, TWO, WEBS, all_texts, can_be_put, error_of, is_plain_integer, is_text, odd_things,
    plain_full, plain_ways, random_book, stretches_up_to, walk_ends, walk_texts,
)

FEW_LESS = [Book(book.web, book.words[:at] + book.words[at + 1:]) for book, _, _ in FULL for at in (0, len(book.words) // 2)]
DRAWN = BOOKS + [random_book(seed, WEBS[seed % len(WEBS)], 8, 3) for seed in range(100, 300)] + FEW_LESS


def whole_within(web, source, text, size):
    """A stretch with a text in it and so many letters on both sides of it, which are drawn."""
    for _ in range(size):
        signs = sorted({letter for _, letter, _ in web.arrows})
        text = source.choice([sign + text for sign in signs if walk_ends(web, sign + text)])
        text = source.choice([text + sign for sign in signs if walk_ends(web, text + sign)])
    return text


class Full(unittest.TestCase):
    def test_full_books(self):
        for book, many, _ in FULL:
            self.assertIs(is_full(book), True)
            self.assertEqual(all_ways(book), many)
            self.assertEqual(plain_full(book.web, book.words), many)
            self.assertIsNone(addable(book))
            size = max(len(word) for word in book.words)
            for text in stretches_up_to(book.web, min(size + 1, 6)):
                self.assertFalse(can_be_put(book.web, book.words, text))
                self.assertIs(is_addable(book, text), False)

    def test_books_that_are_not_full(self):
        fulls = 0
        for book in DRAWN:
            known = plain_full(book.web, book.words)
            fulls += known is not None
            self.assertIs(is_full(book), known is not None)
            self.assertEqual(all_ways(book), known)
            text = addable(book)
            self.assertEqual(text is None, known is not None)
            if text is not None:
                self.assertIs(type(text), str)
                self.assertTrue(can_be_put(book.web, book.words, text), (book.words, text))
                self.assertIs(is_addable(book, text), True)
        self.assertGreater(fulls, 10)
        self.assertGreater(len(DRAWN), fulls + 300)

    def test_is_addable_against_the_definition(self):
        for book in DRAWN[:150]:
            for text in stretches_up_to(book.web, 4) + ["", "abc", "aaaaaaa"]:
                self.assertIs(is_addable(book, text), can_be_put(book.web, book.words, text))

    def test_is_addable_of_anything(self):
        book = Book(F, ("ab",))
        for thing in odd_things() + ["", "A", "ab", "abb", "bab", "a" * 400 + "c"]:
            known = is_text(thing) and set(thing) <= set("ab") and can_be_put(F, book.words, thing)
            self.assertIs(is_addable(book, thing), known)
        self.assertIs(is_addable(book, "b" + "a" * 399), True)
        self.assertIs(is_addable(Book(F, ("a",)), "bab"), True)
        self.assertIs(is_addable(Book(G, ()), "bb"), False)

    def test_each_place_in_just_one_way(self):
        # One way cuts the only endless text, but every second place is in none.
        self.assertIs(is_full(Book(ring_web("ab"), ("ab",))), False)
        self.assertIsNone(all_ways(Book(ring_web("ab"), ("ab",))))
        self.assertEqual(all_ways(Book(ring_web("ab"), ("ab", "ba"))), 2)
        self.assertEqual(all_ways(Book(ring_web("ab"), ("a", "b"))), 1)
        self.assertEqual(all_ways(Book(ring_web("ab"), ("a", "bab"))), 2)

    def test_no_words_and_one_letter(self):
        for web in WEBS:
            book = Book(web, ())
            self.assertIs(is_full(book), False)
            self.assertTrue(can_be_put(web, (), addable(book)))
        for many in (1, 2, 7, 60):
            book = Book(free_web("a"), ("a" * many,))
            self.assertEqual((is_full(book), all_ways(book), addable(book)), (True, many, None))

    def test_books_of_any_size(self):
        web = free_web("abcdefghijkl")
        book = made(web, (), 4)
        self.assertEqual((len(book.words), all_ways(book), addable(book)), (20736, 4, None))
        wide = rows_web(["aab" * 6, "b" * 20, "ab" * 10])
        self.assertEqual(all_ways(Book(wide, ("a", "b"))), 1)
        self.assertIsNone(all_ways(Book(wide, ("a",))))
        self.assertTrue(can_be_put(wide, ("a",), addable(Book(wide, ("a",)))))
        long_book = Book(F, tuple(sorted(text for text in all_texts("ab", 8))))
        self.assertEqual(all_ways(long_book), 8)

    def test_second_fact(self):
        source = random.Random(5)
        for book, many, _ in FULL:
            size = max(len(word) for word in book.words)
            for text in sorted(walk_texts(book.web, size))[:20]:
                self.assertEqual(plain_ways(book.words, text), many)
            for text in stretches_up_to(book.web, 3):
                whole = whole_within(book.web, source, text, size)
                over = 0
                for begin in range(size):
                    for word in book.words:
                        over += whole.startswith(word, begin) and begin + len(word) > size + len(text)
                self.assertEqual(over, many - plain_ways(book.words, text))

    def test_equal_books_answer_alike(self):
        for book, many, _ in FULL[:40]:
            other = Book(book.web, tuple(list(book.words)))
            self.assertEqual((all_ways(book), addable(book)), (all_ways(other), addable(other)))
        for book in DRAWN[:40]:
            other = Book(book.web, tuple(list(book.words)))
            self.assertEqual((addable(book), loose(book, 3)), (addable(other), loose(other, 3)))


class Loose(unittest.TestCase):
    def test_of_books(self):
        for book in DRAWN:
            full = plain_full(book.web, book.words) is not None
            for many in (0, 1, 2, 5, 100):
                text = loose(book, many)
                self.assertEqual(text is None, full)
                if text is not None:
                    self.assertTrue(walk_ends(book.web, text))
                    self.assertGreater(plain_ways(book.words, text), many)
                    self.assertIs(is_loose(book, many, text), True)

    def test_full_books_have_none(self):
        for book, _, _ in FULL:
            self.assertEqual((loose(book, 0), loose(book, 100)), (None, None))

    def test_is_loose_against_readings(self):
        for book in DRAWN[:60] + [book for book, _, _ in FULL[:60]]:
            for text in stretches_up_to(book.web, 4):
                for many in range(6):
                    self.assertIs(is_loose(book, many, text), plain_ways(book.words, text) > many)
        self.assertIs(is_loose(TWO, 0, ""), True)
        self.assertIs(is_loose(TWO, 1, ""), False)
        self.assertIs(is_loose(TWO, 1, "a" * 400), True)
        self.assertIs(is_loose(TWO, 2, "a" * 400), False)
        self.assertIs(is_loose(Book(G, ()), 2, "ab"), True)
        self.assertIs(is_loose(Book(G, ()), 2, "bb"), False)

    def test_of_anything(self):
        book = Book(F, ("ab",))
        for thing in odd_things():
            known = is_text(thing) and set(thing) <= set("ab") and plain_ways(book.words, thing) > 1
            self.assertIs(is_loose(book, 1, thing), known)

    def test_numbers(self):
        for book in (TWO, Book(F, ("ab",))):
            for many in (0, 100):
                self.assertIsNone(error_of(loose, book, many))
                self.assertIsNone(error_of(is_loose, book, many, None))
            for thing in [-1, 101, 10 ** 39] + [thing for thing in odd_things() if not is_plain_integer(thing)]:
                self.assertEqual(error_of(loose, book, thing), "NoNumber")
                self.assertEqual(error_of(is_loose, book, thing, "a"), "NoNumber")
                self.assertEqual(error_of(is_loose, book, thing, None), "NoNumber")


def first_reason(web, texts):
    """The kind of the first reason, and what it tells where it is not free."""
    for index, item in enumerate(texts):
        if not is_text(item) or not 1 <= len(item) <= 60 or item in texts[:index] or not walk_ends(web, item):
            return ("word", index)
    if clash(texts) is not None:
        return ("clash",) + clash(texts)
    if plain_full(web, texts) is None:
        return ("room", None)
    return None


class Misfits(unittest.TestCase):
    def check(self, web, texts):
        known = first_reason(web, texts)
        reason = misfit(web, texts)
        if known is None or known[0] != "room":
            self.assertEqual(reason, known)
        else:
            self.assertEqual(reason[0], "room")
            self.assertTrue(can_be_put(web, texts, reason[1]))
        self.assertIs(type(reason), type(None) if known is None else tuple)
        self.assertIs(is_misfit(web, texts, reason), True)
        for thing in (None, ("word", 0), ("word", 1), ("room", "a"), ("room", "ab"), ("clash", "a", "ab")):
            right = thing == known
            if known is not None and known[0] == "room" and thing is not None and thing[0] == "room":
                right = can_be_put(web, texts, thing[1])
            self.assertIs(is_misfit(web, texts, thing), right)
        return reason

    def test_full_books_in_any_order(self):
        for number, (book, _, _) in enumerate(FULL):
            texts = list(book.words)
            random.Random(number).shuffle(texts)
            self.assertIsNone(self.check(book.web, texts))
            self.assertIsNone(self.check(book.web, tuple(texts)))
            kept = list(texts)
            self.check(book.web, texts[1:])
            self.check(book.web, texts + texts[:1])
            self.check(book.web, texts + ["b"])
            self.check(book.web, [texts[0] + texts[0]] + texts)
            self.assertEqual(texts, kept)

    def test_drawn_ones(self):
        for seed in range(400):
            source = random.Random(seed)
            web = source.choice(WEBS)
            texts = ["".join(source.choice("ab") for _ in range(source.randint(0, 3))) for _ in range(source.randint(0, 5))]
            self.check(web, texts)
            self.check(web, tuple(texts))

    def test_the_first_reason(self):
        self.assertEqual(misfit(F, ("a", "ab", "c", "a")), ("word", 2))
        self.assertEqual(misfit(F, ("a", "ab", "a", "c")), ("word", 2))
        self.assertEqual(misfit(F, ("a", "", "c")), ("word", 1))
        self.assertEqual(misfit(G, ["a", "bb"]), ("word", 1))
        self.assertEqual(misfit(F, ["b", "ab", "a"]), ("clash", "a", "ab"))
        self.assertEqual(misfit(F, [])[0], "room")
        self.assertEqual(misfit(F, ())[0], "room")
        self.assertIsNone(misfit(F, ["b", "a"]))
        self.assertIsNone(misfit(F, THREE.words[::-1]))
        self.assertIsNone(misfit(ring_web("ab"), ["ba", "ab"]))
        self.assertEqual(misfit(R, ["aab", "aba"])[0], "room")

    def test_sizes(self):
        web = free_web("a")
        self.assertIsNone(misfit(web, ["a" * 60]))
        self.assertEqual(misfit(web, ["a" * 61]), ("word", 0))
        nine = all_texts("ab", 9)
        self.assertEqual(misfit(F, nine[:400])[0], "room")
        self.assertTrue(can_be_put(F, nine[:400], misfit(F, nine[:400])[1]))
        for texts in (nine[:401], tuple(nine[:401]), nine[:400] + [None], [None] * 401):
            self.assertEqual(error_of(misfit, F, texts), "NoTexts")
            self.assertEqual(error_of(is_misfit, F, texts, None), "NoTexts")
        self.assertEqual(misfit(F, nine[:399] + [None]), ("word", 399))
        self.assertIsNone(misfit(F, all_texts("ab", 8)))
        self.assertEqual(misfit(F, all_texts("ab", 8)[:-1])[0], "room")

    def test_of_what(self):
        for thing in odd_things():
            if type(thing) not in (list, tuple) or len(thing) > 400:
                self.assertEqual(error_of(misfit, F, thing), "NoTexts")
                self.assertEqual(error_of(is_misfit, F, thing, None), "NoTexts")
            else:
                self.check(F, thing)
            if not is_text(thing) or not walk_ends(F, thing) or not 1 <= len(thing) <= 60:
                self.assertEqual(misfit(F, ["a", thing, None]), ("word", 1))
                self.assertEqual(misfit(F, (thing, "a", "a")), ("word", 0))

    def test_judging_anything(self):
        self.assertIs(is_misfit(F, ["a", "b", "b"], ("word", 2)), True)
        self.assertIs(is_misfit(F, ["a", "a"], ("word", 1)), True)
        for thing in odd_things() + [("word", True), ["word", 1], ("word", 0), ("word", 2), ("word",), ("word", 1, 1), (1, "word"), ("room", "b")]:
            self.assertIs(is_misfit(F, ["a", "a"], thing), False)
        self.assertIs(is_misfit(F, ["", "a"], ("word", False)), False)
        self.assertIs(is_misfit(F, ["", "a"], ("word", 0)), True)
        for thing in odd_things() + [["clash", "a", "ab"], ("clash", ("a", "ab")), ("clash", "ab", "a"), ("clash", "a"), ("clash", "a", ["ab"])]:
            self.assertIs(is_misfit(F, ["a", "ab"], thing), False)
        for thing in odd_things():
            self.assertIs(is_misfit(F, ["a"], ("room", thing)), is_text(thing) and walk_ends(F, thing) != set() and can_be_put(F, ["a"], thing))
            self.assertIs(is_misfit(F, ["a"], (thing, "b")), False)
            self.assertIs(is_misfit(F, ["a"], thing), False)
            self.assertIs(is_misfit(F, ["a", "b"], thing), thing is None)
            self.assertIs(is_misfit(F, ["a", "b"], ("room", thing)), False)
        self.assertIs(is_misfit(F, ["a"], ["room", "b"]), False)
        self.assertIs(is_misfit(F, ["a"], ("room", "b")), True)
        self.assertIs(is_misfit(F, ["a"], ("room", "bab")), True)
        self.assertIs(is_misfit(F, ["a"], ("room", "ba")), False)


if __name__ == "__main__":
    unittest.main()
