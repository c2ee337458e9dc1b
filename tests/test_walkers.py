"""Walkers: 12.1."""

import random
import unittest

from neverjoin.books import Book
from neverjoin.errors import NoLetter
from neverjoin.inner import made
from neverjoin.making import free_web, ring_web, rows_web
from neverjoin.walkers import Walker
from plain import (
    BOOKS, F, FORK, FULL, G, JUST, R, THREE, TWO, error_of, is_text, odd_things, plain_ways, rows_of_cuts, walk_ends,
)

LETTERS = "abcdefghijklmnopqrstuvwxyz"


def plain_since(words, text):
    """The ascending tuple of the letters behind the last cut of each reading, each place tried by itself."""
    places = range(len(text) + 1)
    last = [place for place in places if not any(text.startswith(word, place) for word in words)]
    return tuple(sorted(len(text) - place for place in last))


def plain_word(words, text):
    """The word that ends where a text ends, None if none does."""
    ending = [word for word in words if text.endswith(word)]
    return ending[0] if ending else None


def told(walker):
    return (walker.text(), walker.many(), walker.since(), walker.depth())


class Taking(unittest.TestCase):
    def check(self, walker, book, text):
        self.assertEqual(walker.text(), text)
        self.assertEqual(walker.many(), plain_ways(book.words, text))
        self.assertEqual(walker.since(), plain_since(book.words, text))
        self.assertIs(type(walker.since()), tuple)

    def test_letter_by_letter(self):
        for number, book in enumerate(BOOKS + [book for book, _, _ in FULL[::3]]):
            source = random.Random(number)
            walker = Walker(book)
            text = ""
            self.check(walker, book, "")
            for _ in range(30):
                signs = [sign for sign in "abc" if walk_ends(book.web, text + sign)]
                for sign in LETTERS:
                    if sign not in signs:
                        self.assertEqual(error_of(walker.take, sign), "NoLetter")
                sign = source.choice(signs)
                text += sign
                self.assertEqual(walker.take(sign), plain_word(book.words, text))
                self.check(walker, book, text)

    def test_against_all_readings(self):
        for book in BOOKS[::4] + [book for book, _, _ in FULL[::12]]:
            source = random.Random(len(book.words))
            walker = Walker(book)
            for _ in range(8):
                signs = [sign for sign in "abc" if walk_ends(book.web, walker.text() + sign)]
                walker.take(source.choice(signs))
                known = rows_of_cuts(book.words, walker.text())
                self.assertEqual(walker.many(), len(known))
                self.assertEqual(walker.since(), tuple(sorted(len(walker.text()) - cuts[-1] for cuts in known)))

    def test_ordinary_ones(self):
        walker = Walker(THREE)
        found = [(walker.take(sign), walker.many(), walker.since()) for sign in "aababb"]
        self.assertEqual(found, [
            (None, 2, (0, 1)), (None, 3, (0, 1, 2)), ("ab", 3, (0, 1, 3)), ("aaba", 3, (0, 1, 2)), ("ab", 3, (0, 1, 3)),
            ("babb", 3, (0, 1, 2)),
        ])
        self.assertEqual(told(Walker(THREE)), ("", 1, (0,), 0))
        walker = Walker(Book(R, ()))
        self.assertEqual([walker.take(sign) for sign in "abaab"], [None] * 5)
        self.assertEqual((walker.many(), walker.since()), (6, (0, 1, 2, 3, 4, 5)))
        self.assertEqual(error_of(walker.take, "b"), "NoLetter")
        self.assertEqual(walker.text(), "abaab")

    def test_from_anywhere_in_the_web(self):
        for sign in "ab":
            self.assertIsNone(error_of(Walker(Book(R, ())).take, sign))
        walker = Walker(Book(ring_web("aab"), ("aab", "aba", "baa")))
        self.assertEqual([walker.take(sign) for sign in "abaab"], [None, None, "aba", "baa", "aab"])
        walker = Walker(Book(G, ("b",)))
        self.assertEqual(walker.take("b"), "b")
        self.assertEqual(error_of(walker.take, "b"), "NoLetter")
        self.assertIsNone(walker.take("a"))

    def test_what_is_no_letter(self):
        walker = Walker(Book(G, ("aa", "aba", "b")))
        walker.take("b")
        before = told(walker)
        for thing in odd_things() + ["b", "c", "", "aa", "A"]:
            if is_text(thing) and thing == "a":
                continue
            self.assertEqual(error_of(walker.take, thing), "NoLetter")
            self.assertEqual(told(walker), before)
        self.assertEqual(walker.take("a"), None)

    def test_far_walks(self):
        walker = Walker(TWO)
        for at in range(4000):
            walker.take("ab"[at % 2])
        self.assertEqual((walker.many(), walker.since(), walker.depth()), (2, (0, 1), 4000))
        walker = Walker(Book(F, ()))
        for _ in range(1500):
            walker.take("b")
        self.assertEqual((walker.many(), walker.since()), (1501, tuple(range(1501))))
        walker = Walker(Book(free_web("a"), ("a" * 60,)))
        self.assertEqual([walker.take("a") for _ in range(61)], [None] * 59 + ["a" * 60] * 2)
        self.assertEqual(walker.since(), tuple(range(60)))

    def test_books_of_any_size(self):
        walker = Walker(made(free_web("abcdefghijkl"), (), 4))
        self.assertEqual([walker.take(sign) for sign in "abcdef"], [None] * 3 + ["abcd", "bcde", "cdef"])
        wide = rows_web(["aab" * 6, "b" * 20, "ab" * 10])
        walker = Walker(made(wide, ("aab",), 5))
        for sign in "abaabaab":
            walker.take(sign)
        self.assertEqual(walker.many(), 5)
        text = JUST.words[0]
        walker = Walker(JUST)
        self.assertEqual([walker.take(sign) for sign in text][-1], text)


class GoingBack(unittest.TestCase):
    def test_back_to_the_beginning_and_behind_it(self):
        walker = Walker(THREE)
        self.assertEqual(error_of(walker.back), "NothingDone")
        states = [told(walker)]
        for sign in "aababbab":
            walker.take(sign)
            states.append(told(walker))
        for state in states[-2::-1]:
            self.assertIsNone(walker.back())
            self.assertEqual(told(walker), state)
        for _ in range(3):
            self.assertEqual(error_of(walker.back), "NothingDone")
            self.assertEqual(told(walker), ("", 1, (0,), 0))
        self.assertEqual([walker.take(sign) for sign in "aaba"], [None, None, "ab", "aaba"])

    def test_there_and_back(self):
        for number, (book, _, _) in enumerate(FULL[::8]):
            source = random.Random(number)
            walker = Walker(book)
            text = ""
            for _ in range(80):
                if source.random() < 0.4 and text:
                    walker.back()
                    text = text[:-1]
                else:
                    sign = source.choice([sign for sign in "abc" if walk_ends(book.web, text + sign)])
                    text += sign
                    self.assertEqual(walker.take(sign), plain_word(book.words, text))
                self.assertEqual(told(walker), (text, plain_ways(book.words, text), plain_since(book.words, text), len(text)))


class Copies(unittest.TestCase):
    def test_led_apart(self):
        walker = Walker(THREE)
        for sign in "aab":
            walker.take(sign)
        other = walker.copy()
        self.assertIs(type(other), Walker)
        self.assertEqual(told(other), told(walker))
        walker.take("a")
        other.take("b")
        other.take("a")
        self.assertEqual((walker.text(), other.text()), ("aaba", "aabba"))
        self.assertEqual((walker.depth(), other.depth()), (4, 5))
        # It can go back as far as the other one.
        for _ in range(5):
            other.back()
        self.assertEqual((error_of(other.back), walker.text()), ("NothingDone", "aaba"))
        walker.back()
        self.assertEqual((walker.text(), other.text()), ("aab", ""))

    def test_copies_of_copies(self):
        walker = Walker(TWO)
        walkers = [walker]
        for sign in "abba":
            walkers.append(walkers[-1].copy())
            walkers[-1].take(sign)
        self.assertEqual([one.text() for one in walkers], ["", "a", "ab", "abb", "abba"])
        self.assertEqual(walker == walkers[1], False)
        self.assertEqual(walker == "", False)


class Trying(unittest.TestCase):
    def setUp(self):
        self.walker = Walker(THREE)
        for sign in "aab":
            self.walker.take(sign)
        self.before = told(self.walker)

    def test_what_is_returned(self):
        asked = []

        def action(walker):
            asked.append(walker)
            return (walker.take("a"), walker.text())

        self.assertEqual(self.walker.trying(action), ("aaba", "aaba"))
        self.assertIs(asked[0], self.walker)
        self.assertEqual(told(self.walker), self.before)
        self.assertIsNone(self.walker.trying(lambda walker: None))
        self.assertEqual(self.walker.trying(lambda walker: walker.take("b")), "aabb")
        self.assertEqual(told(self.walker), self.before)

    def test_errors_go_on(self):
        class Odd(BaseException):
            pass

        for kind in (KeyError, ValueError, NoLetter, Odd, RecursionError):
            def action(walker):
                walker.take("b")
                walker.back()
                walker.back()
                raise kind()

            with self.assertRaises(kind):
                self.walker.trying(action)
            self.assertEqual(told(self.walker), self.before)
        self.assertEqual(error_of(self.walker.trying, lambda walker: [walker.take("b"), walker.take("c")]), "NoLetter")
        self.assertEqual(told(self.walker), self.before)

    def test_further_back_than_it_went(self):
        def action(walker):
            while walker.depth():
                walker.back()
            self.assertEqual(error_of(walker.back), "NothingDone")
            for sign in "bbbbbb":
                walker.take(sign)
            return told(walker)

        self.assertEqual(self.walker.trying(action), ("bbbbbb", 3, (0, 1, 2), 6))
        self.assertEqual(told(self.walker), self.before)
        for text in ("aa", "a", ""):
            self.walker.back()
            self.assertEqual(self.walker.text(), text)
        self.assertEqual(error_of(self.walker.back), "NothingDone")

    def test_trials_within_trials(self):
        def inner_one(walker):
            walker.back()
            walker.back()
            walker.take("b")
            return walker.text()

        def outer(walker):
            walker.take("a")
            found = walker.trying(inner_one)
            self.assertEqual(walker.text(), "aaba")
            with self.assertRaises(KeyError):
                walker.trying(lambda one: {}[one.take("b")])
            self.assertEqual(walker.text(), "aaba")
            walker.take("a")
            return (found, walker.text())

        self.assertEqual(self.walker.trying(outer), ("aab", "aabaa"))
        self.assertEqual(told(self.walker), self.before)

        def deeper(walker):
            if walker.depth() < 200:
                walker.take("a")
                return walker.trying(deeper)
            return walker.many()

        self.assertEqual(self.walker.trying(deeper), 3)
        self.assertEqual(told(self.walker), self.before)

    def test_copies_within_trials(self):
        def action(walker):
            walker.take("a")
            return walker.copy()

        other = self.walker.trying(action)
        self.assertEqual((other.text(), self.walker.text()), ("aaba", "aab"))
        self.walker.take("b")
        self.assertEqual((other.text(), self.walker.text()), ("aaba", "aabb"))

    def test_equal_books_made_apart(self):
        one, other = Walker(THREE), Walker(Book(free_web("ab"), tuple(list(THREE.words))))
        for sign in "abbabaabbaab":
            self.assertEqual(one.take(sign), other.take(sign))
            self.assertEqual(told(one), told(other))
        self.assertEqual(Walker(Book(FORK, ("ab",))).take("b"), None)


if __name__ == "__main__":
    unittest.main()
