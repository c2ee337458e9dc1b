"""Strangers: 11.1, 11.2."""

import itertools
import unittest

from neverjoin.books import Book
from neverjoin.errors import NoPlace
from neverjoin.inner import made
from neverjoin.making import free_web, ring_web, rows_web
from neverjoin.strangers import fooled, is_all_readings, lost, sure_cuts
from plain import (
    BOOKS, F, FULL, G, R, THREE, TWO, error_of, is_plain_integer, is_text, odd_things, rows_of_cuts, split_up, stretches_up_to,
    walk_ends, walk_texts,
)

SOME = BOOKS[::2] + [book for book, _, _ in FULL[::6]]


def short_stretches(book):
    return stretches_up_to(book.web, 5 if book.web.points < 3 else 3)


def plain_lost(words, text, other):
    """The places between which the cuts are lost: cut by cut, from the front and from behind."""
    row, further = split_up(words, text)[0], split_up(words, other)[0]
    begin, end = 0, len(text)
    while row and further and row[0] == further[0]:
        begin += len(row[0])
        row, further = row[1:], further[1:]
    while row and further and row[-1] == further[-1]:
        end -= len(row[-1])
        row, further = row[:-1], further[:-1]
    return (begin, end)


class Fooled(unittest.TestCase):
    def check(self, book, text, guess):
        known = rows_of_cuts(book.words, text)
        place = guess(text)
        found = fooled(book, text, guess)
        if len(known) == 1:
            self.assertIsNone(found)
        else:
            self.assertIn(found, known)
            self.assertNotIn(place, found)

    def test_each_guess_of_a_place(self):
        for book in SOME:
            for text in short_stretches(book):
                for place in range(len(text) + 1):
                    self.check(book, text, lambda told: place)

    def test_guesses_that_read_the_text(self):
        for book in SOME:
            for text in short_stretches(book):
                self.check(book, text, len)
                self.check(book, text, lambda told: 0)
                self.check(book, text, lambda told: told.find("a") + 1)
                self.check(book, text, lambda told: rows_of_cuts(book.words, told)[-1][-1])

    def test_the_guess_is_asked_in_any_case(self):
        for text in ("", "a", "aba", "ab" * 200):
            asked = []
            error = error_of(fooled, TWO, text, lambda told: asked.append(told) or 0)
            self.assertEqual((error, asked), (None, [text]))
            self.assertEqual(error_of(fooled, TWO, text, lambda told: len(told) + 1), "NoPlace")
            self.assertEqual(error_of(fooled, TWO, text, lambda told: -1), "NoPlace")
        # Not where the text is no stretch.
        asked = []
        self.assertEqual(error_of(fooled, TWO, "abc", lambda told: asked.append(told)), "NoStretch")
        self.assertEqual(asked, [])

    def test_guesses_that_give_no_place(self):
        for book, text in ((TWO, "aba"), (Book(F, ("aba",)), "aba"), (Book(F, ()), ""), (TWO, ""), (made(F, (), 1), "aba")):
            for thing in [-1, len(text) + 1] + odd_things():
                if not (is_plain_integer(thing) and 0 <= thing <= len(text)):
                    self.assertEqual(error_of(fooled, book, text, lambda told: thing), "NoPlace")
                else:
                    self.assertIsNone(error_of(fooled, book, text, lambda told: thing))

    def test_errors_of_the_guess_go_on(self):
        def failing(told):
            raise KeyError(told)

        def placeless(told):
            raise NoPlace()

        with self.assertRaises(KeyError):
            fooled(TWO, "ab", failing)
        self.assertEqual(error_of(fooled, TWO, "ab", placeless), "NoPlace")
        self.assertEqual(error_of(fooled, TWO, "c", failing), "NoStretch")

    def test_ordinary_ones(self):
        self.assertEqual(fooled(TWO, "aba", lambda told: 0), (1, 3))
        self.assertEqual(fooled(TWO, "aba", lambda told: 3), (0, 2))
        self.assertIsNone(fooled(TWO, "", lambda told: 0))
        self.assertIsNone(fooled(made(F, (), 1), "aba", lambda told: 2))
        self.assertIsNone(fooled(Book(F, ("ab",)), "", len))
        text = "ab" * 200
        self.assertEqual(fooled(TWO, text, lambda told: 0), tuple(range(1, 400, 2)))
        self.assertEqual(fooled(TWO, text, lambda told: 399), tuple(range(0, 401, 2)))

    def test_what_is_no_stretch(self):
        book = Book(G, ("ab", "ba"))
        for thing in odd_things() + ["bb", "c"]:
            if is_text(thing) and walk_ends(G, thing):
                continue
            self.assertEqual(error_of(fooled, book, thing, lambda told: 0), "NoStretch")
            self.assertEqual(error_of(sure_cuts, book, thing), "NoStretch")
            self.assertEqual(error_of(is_all_readings, book, thing, []), "NoStretch")
            self.assertEqual(error_of(is_all_readings, book, thing, None), "NoStretch")


class SureCuts(unittest.TestCase):
    def test_against_all_readings(self):
        for book in SOME:
            for text in short_stretches(book):
                known = [set(cuts) for cuts in rows_of_cuts(book.words, text)]
                self.assertEqual(sure_cuts(book, text), tuple(sorted(set.intersection(*known))))

    def test_ordinary_ones(self):
        self.assertEqual(sure_cuts(TWO, "ab"), ())
        self.assertEqual(sure_cuts(TWO, ""), (0,))
        self.assertEqual(sure_cuts(made(F, (), 1), "abb"), (0, 1, 2, 3))
        self.assertEqual(sure_cuts(made(F, (), 1), "ab" * 200), tuple(range(401)))
        self.assertEqual(sure_cuts(Book(F, ("ab",)), "ab"), ())
        self.assertEqual(sure_cuts(Book(F, ()), "a"), ())
        self.assertEqual(sure_cuts(Book(R, ("a", "b")), "aab"), (0, 1, 2, 3))


class IsAllReadings(unittest.TestCase):
    def test_rows_in_any_order(self):
        for book in SOME:
            for text in short_stretches(book)[:20]:
                known = rows_of_cuts(book.words, text)
                orders = itertools.permutations(known) if len(known) < 4 else (known, known[::-1], known[1:] + known[:1])
                for order in orders:
                    self.assertIs(is_all_readings(book, text, list(order)), True)
                    self.assertIs(is_all_readings(book, text, tuple(order)), True)
                for wrong in (known[1:], known[:-1], known + known[:1], known + [(0,)], known + [()], [known], known[0]):
                    right = sorted(wrong) == known if all(type(item) is tuple for item in wrong) else False
                    self.assertIs(is_all_readings(book, text, wrong), right)

    def test_wrong_things(self):
        self.assertIs(is_all_readings(TWO, "aba", [(0, 2), (1, 3)]), True)
        self.assertIs(is_all_readings(TWO, "aba", ((1, 3), (0, 2))), True)
        for thing in (
            [(0, 2)], [(0, 2), (0, 2)], [(0, 2), (1, 3), (1, 3)], [[0, 2], [1, 3]], [(0, 2), [1, 3]], [(False, 2), (1, 3)],
            [(0, 2), (True, 3)], {(0, 2): (1, 3)}, [(0, 2), (1, 3), None], [(0, 2), "13"], [(0, 2), (1, "3")], [(0, 2, 2), (1, 3)],
            [(2, 0), (3, 1)], [((0, 2), (1, 3))], (0, 2), [(0, 2), (1, 3), ()], [(0, 2), (1, 4)],
        ):
            self.assertIs(is_all_readings(TWO, "aba", thing), False)
        self.assertIs(is_all_readings(TWO, "", [(0,)]), True)
        self.assertIs(is_all_readings(TWO, "", [(False,)]), False)
        for thing in odd_things():
            self.assertIs(is_all_readings(TWO, "aba", thing), False)
            self.assertIs(is_all_readings(TWO, "aba", [(0, 2), thing]), False)
            self.assertIs(is_all_readings(TWO, "aba", [(0, 2), (1, thing)]), False)
            self.assertIs(is_all_readings(TWO, "", thing), False)
        self.assertIs(is_all_readings(Book(F, ()), "ab", [(1,), (0,), (2,)]), True)
        self.assertIs(is_all_readings(TWO, "", ((0,),)), True)

    def test_long_stretches(self):
        text = "ab" * 200
        listed = [tuple(range(1, 400, 2)), tuple(range(0, 401, 2))]
        self.assertIs(is_all_readings(TWO, text, listed), True)
        self.assertIs(is_all_readings(Book(F, ()), text, [(place,) for place in range(401)][::-1]), True)
        self.assertIs(is_all_readings(Book(F, ()), text, [(place,) for place in range(400)]), False)

    def test_what_is_passed_stays(self):
        listed = [(1, 3), (0, 2)]
        is_all_readings(TWO, "aba", listed)
        self.assertEqual(listed, [(1, 3), (0, 2)])


class Lost(unittest.TestCase):
    def test_against_rows_cut_by_cut(self):
        many = 0
        for book in SOME:
            texts = stretches_up_to(book.web, 7 if book.web.points < 3 else 5)
            rows = [text for text in texts if split_up(book.words, text)]
            for text in rows[:60]:
                for other in [one for one in rows if len(one) == len(text)][:30]:
                    if sum(one != sign for one, sign in zip(text, other)) != 1:
                        self.assertEqual(error_of(lost, book, text, other), "NotNear")
                        continue
                    many += 1
                    self.assertEqual(lost(book, text, other), plain_lost(book.words, text, other))
                    self.assertIs(type(lost(book, text, other)), tuple)
        self.assertGreater(many, 500)

    def test_ordinary_ones(self):
        self.assertEqual(lost(TWO, "ababab", "ababbb"), (4, 6))
        self.assertEqual(lost(TWO, "ab", "aa"), (0, 2))
        self.assertEqual(lost(made(F, (), 1), "aba", "aaa"), (1, 2))
        self.assertEqual(lost(THREE, "bbb" + "baba" + "bba", "bbb" + "babb" + "bba"), (3, 7))
        self.assertEqual(lost(THREE, "ab" + "aaba", "ab" + "aabb"), (2, 6))
        self.assertEqual(lost(THREE, "bba" + "ab", "bbb" + "ab"), (0, 3))
        text = "ab" * 200
        self.assertEqual(lost(TWO, text, "ab" * 100 + "bb" + "ab" * 99), (200, 202))
        self.assertEqual(lost(TWO, "b" + text[1:], text), (0, 2))
        self.assertEqual(lost(TWO, text, text[:-1] + "a"), (398, 400))

    def test_the_part_between_is_a_word_of_each(self):
        # None of the words begins or ends another one, so both have a word around the unlike letter at the same places.
        longest = 0
        for book, _, _ in FULL:
            if book.web != F or len(book.words) > 20:
                continue
            rows = {text for text in stretches_up_to(F, 9) if len(text) > 6 and split_up(book.words, text)}
            for text in sorted(rows):
                for at in range(len(text)):
                    other = text[:at] + ("b" if text[at] == "a" else "a") + text[at + 1:]
                    if other in rows:
                        begin, end = lost(book, text, other)
                        self.assertTrue(begin <= at < end)
                        self.assertIn(text[begin:end], book.words)
                        self.assertIn(other[begin:end], book.words)
                        longest = max(longest, end - begin)
        self.assertGreaterEqual(longest, 4)

    def test_not_near(self):
        for text, other in (("ab", "ab"), ("", ""), ("ab", "ba"), ("abab", "baab"), ("ab", "abab"), ("abab", "ab"), ("ab", ""), ("", "ab")):
            self.assertEqual(error_of(lost, TWO, text, other), "NotNear")
        self.assertIsNone(error_of(lost, TWO, "abab", "abbb"))
        self.assertEqual(error_of(lost, TWO, "ab" * 200, "ab" * 200), "NotNear")

    def test_errors_in_order(self):
        book = Book(G, ("ab", "ba"))
        for thing in odd_things() + ["bb", "abc"]:
            if is_text(thing) and walk_ends(G, thing):
                continue
            for other in ("ab", "a", "aa", "ba", None):
                self.assertEqual(error_of(lost, book, thing, other), "NoStretch")
                self.assertEqual(error_of(lost, book, other, thing), "NoStretch")
        # Either is no row of words.
        for other in ("ab", "a", "aa", "abab", ""):
            self.assertEqual(error_of(lost, book, "a", other), "NoRow")
            self.assertEqual(error_of(lost, book, other, "a"), "NoRow")
            self.assertEqual(error_of(lost, book, other, "aa"), "NoRow")
        self.assertEqual(error_of(lost, Book(F, ()), "a", "b"), "NoRow")
        self.assertEqual(error_of(lost, Book(F, ()), "", ""), "NotNear")
        self.assertEqual(error_of(lost, book, "ab", "ba"), "NotNear")

    def test_webs_of_any_size(self):
        wide = rows_web(["aab" * 6, "b" * 20, "ab" * 10])
        book = made(wide, ("aab",), 5)
        rows = [text for text in walk_texts(wide, 10) if split_up(book.words, text)]
        near = [(text, other) for text in rows for other in rows if sum(one != sign for one, sign in zip(text, other)) == 1]
        for text, other in near:
            self.assertEqual(lost(book, text, other), plain_lost(book.words, text, other))
        self.assertTrue(near)
        self.assertEqual(lost(made(free_web("abcdefghijkl"), (), 3), "abcdef", "abcdel"), (3, 6))
        self.assertEqual(error_of(lost, made(ring_web("abc"), (), 3), "abc", "abc"), "NotNear")


if __name__ == "__main__":
    unittest.main()
