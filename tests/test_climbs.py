"""Climbs: 12.3."""

import random
import unittest

from neverjoin.books import Book
from neverjoin.climbs import Climb
from neverjoin.exchanges import put_in, taken_out
from neverjoin.full import all_ways
from neverjoin.inner import inner, made
from neverjoin.listing import all_books
from neverjoin.making import free_web, ring_web, rows_web
from neverjoin.tower import less, more
from neverjoin.towers import address, book_by
from neverjoin.webs import Web
from plain import (
    EVEN, F, FIFTEEN, FORK, G, OVER_ABOVE, R, THREE, TWO, error_of, is_plain_integer, is_text, odd_things, stretches_up_to,
)


def told(climb):
    return (climb.book().words, climb.depth())


def up_with(climb, lot):
    """Go up to the book with just these inner words."""
    climb.up([inner(book) for book in more(climb.book())].index(lot))


def within(book):
    """The stretches strictly within the words of a book, each cut out by itself."""
    return {word[begin:end] for word in book.words for begin in range(1, len(word)) for end in range(begin, len(word))}


class Going(unittest.TestCase):
    def test_drawn_goings(self):
        counts = {}
        for number, web in enumerate((F, G, R, EVEN, FORK, ring_web("abc"), free_web("a"), free_web("abc"), ring_web("abab"))):
            for seed in range(6):
                source = random.Random(10 * number + seed)
                climb = Climb(web)
                kept = [Book(web, tuple(sorted({letter for _, letter, _ in web.arrows})))]
                texts = [text for text in stretches_up_to(web, 2)] + ["aab", "c"]
                for _ in range(20):
                    kind = source.choice(["up", "up", "down", "put", "put", "drop", "back"])
                    counts[(kind, self.lead(climb, kept, kind, source, texts))] = True
                    self.assertEqual(climb.book(), kept[-1])
                    self.assertEqual(climb.depth(), len(kept) - 1)
        for kind, error in (
            ("up", None), ("up", "NoNumber"), ("up", "TooMany 14"), ("down", None), ("down", "OneWay"), ("put", None),
            ("put", "NoExchange"), ("drop", None), ("drop", "NoExchange"), ("back", None), ("back", "NothingDone"),
        ):
            self.assertIn((kind, error), counts)

    def lead(self, climb, kept, kind, source, texts):
        """Lead a climb, and the list of the books that the test keeps; the error that is told."""
        book = kept[-1]
        if kind == "back":
            error = error_of(climb.back)
            self.assertEqual(error, "NothingDone" if len(kept) == 1 else None)
            if error is None:
                kept.pop()
            return error
        if kind == "up":
            thing = source.randint(0, 3)
            known = error_of(more, book)
            books = [] if known else more(book)
            if known is None and thing >= len(books):
                known = "NoNumber"
            following = books[thing] if known is None else None
        elif kind == "down":
            known = error_of(less, book)
            following = less(book) if known is None else None
            error = error_of(climb.down)
        else:
            thing = source.choice(texts + list(inner(book)) * 5)
            function = {"put": put_in, "drop": taken_out}[kind]
            known = error_of(function, book, thing)
            following = function(book, thing) if known is None else None
        if kind != "down":
            error = error_of(getattr(climb, kind), thing)
        self.assertEqual(error, known)
        if error is None:
            kept.append(following)
        return error

    def test_ordinary_ones(self):
        climb = Climb(F)
        self.assertEqual(climb.book(), Book(F, ("a", "b")))
        self.assertIsNone(climb.up(0))
        self.assertEqual(climb.book(), TWO)
        books = more(TWO)
        at = [book.words for book in books].index(THREE.words)
        climb.up(at)
        self.assertEqual(climb.book(), THREE)
        self.assertIsNone(climb.drop("ab"))
        self.assertEqual(climb.book(), made(F, (), 3))
        self.assertIsNone(climb.put("ba"))
        self.assertEqual(climb.book(), made(F, ("ba",), 3))
        self.assertIsNone(climb.down())
        self.assertEqual((climb.book(), climb.depth()), (TWO, 5))
        self.assertEqual(Climb(free_web("xz")).book().words, ("x", "z"))

    def test_up_by_an_address(self):
        for web, ways in ((F, 3), (G, 4), (EVEN, 3)):
            for book in all_books(web, ways):
                climb = Climb(web)
                for number in address(book):
                    climb.up(number)
                self.assertEqual(climb.book(), book)
                self.assertEqual(climb.book(), book_by(web, address(book)))
                for many in range(ways - 1, 0, -1):
                    climb.down()
                    self.assertEqual(all_ways(climb.book()), many)
                self.assertEqual(error_of(climb.down), "OneWay")

    def test_numbers(self):
        climb = Climb(F)
        climb.up(0)
        for thing in [3, -1, 10 ** 39] + [thing for thing in odd_things() if not is_plain_integer(thing)]:
            self.assertEqual(error_of(climb.up, thing), "NoNumber")
            self.assertEqual(told(climb), (TWO.words, 1))
        for number, book in enumerate(more(TWO)):
            climb.up(number)
            self.assertEqual(climb.book(), book)
            climb.back()
        self.assertEqual(error_of(Climb(F).up, 1), "NoNumber")
        self.assertIsNone(error_of(Climb(ring_web("abcdefghijkl")).up, 4094))
        self.assertEqual(error_of(Climb(ring_web("abcdefghijkl")).up, 4095), "NoNumber")

    def test_one_way(self):
        for web in (F, G, R, free_web("a")):
            climb = Climb(web)
            self.assertEqual(error_of(climb.down), "OneWay")
            self.assertEqual(climb.depth(), 0)
            self.assertEqual(error_of(climb.put, "a"), "NoExchange")
            self.assertEqual(error_of(climb.drop, "a"), "NoExchange")

    def test_too_many(self):
        for thing in (0, -1, None, "a"):
            self.assertEqual(error_of(Climb(FIFTEEN).up, thing), "TooMany 14")
            self.assertEqual(error_of(Climb(OVER_ABOVE).up, thing), "TooMany 2000")
        climb = Climb(free_web("abc"))
        climb.up(0)
        climb.up(0)
        self.assertEqual(error_of(climb.up, 0), "TooMany 14")
        self.assertEqual(climb.depth(), 2)

    def test_too_many_stretches_within(self):
        # With ten letters of the ring as inner words its words get longer and longer; an eleventh makes too much of them.
        ten = tuple("abcdefghij")
        climb = Climb(ring_web("abcdefghijkl"))
        for _ in range(14):
            up_with(climb, ten)
        self.assertEqual(all_ways(climb.book()), 15)
        climb.put("k")
        self.assertLessEqual(len(within(climb.book())), 2000)
        climb.back()
        up_with(climb, ten)
        before = told(climb)
        self.assertEqual(error_of(climb.put, "k"), "TooMany 2000")
        self.assertEqual(error_of(climb.put, "ab"), "NoExchange")
        self.assertEqual(told(climb), before)
        for _ in range(12):
            up_with(climb, ten)
        self.assertLessEqual(len(within(climb.book())), 2000)
        self.assertEqual((error_of(climb.up, 0), error_of(climb.up, None)), ("TooMany 2000", "TooMany 2000"))
        self.assertEqual((all_ways(climb.book()), climb.depth()), (28, 27))

    def test_texts_of_any_kind(self):
        climb = Climb(F)
        climb.up(0)
        climb.up(more(TWO).index(THREE))
        for thing in odd_things():
            self.assertEqual(error_of(climb.put, thing), "NoExchange")
            if not (is_text(thing) and thing == "ab"):
                self.assertEqual(error_of(climb.drop, thing), "NoExchange")
            self.assertEqual(told(climb), (THREE.words, 2))

    def test_webs_of_any_size(self):
        wide = rows_web(["aab" * 3, "b" * 13])
        climb = Climb(wide)
        climb.up(0)
        self.assertEqual(climb.book(), more(made(wide, (), 1))[0])
        climb.up(0)
        self.assertEqual(all_ways(climb.book()), 3)
        many = Web(1, tuple((0, letter, 0) for letter in "abcdefghijklmnopqrstuvwxyz"))
        self.assertEqual(error_of(Climb(many).up, 0), "TooMany 14")


class Back(unittest.TestCase):
    def climbed(self):
        climb = Climb(F)
        climb.up(0)
        climb.up(more(TWO).index(THREE))
        return climb

    def test_back_to_the_beginning_and_behind_it(self):
        climb = self.climbed()
        climb.drop("ab")
        climb.down()
        words = [made(F, (), 3).words, THREE.words, TWO.words, ("a", "b")]
        for many, known in zip((3, 2, 1, 0), words):
            self.assertIsNone(climb.back())
            self.assertEqual(told(climb), (known, many))
        for _ in range(2):
            self.assertEqual(error_of(climb.back), "NothingDone")
            self.assertEqual(told(climb), (("a", "b"), 0))

    def test_copies_led_apart(self):
        climb = self.climbed()
        other = climb.copy()
        self.assertIs(type(other), Climb)
        self.assertEqual(told(other), told(climb))
        climb.drop("ab")
        other.down()
        self.assertEqual((climb.book(), other.book()), (made(F, (), 3), TWO))
        for _ in range(3):
            other.back()
        self.assertEqual((error_of(other.back), told(climb)), ("NothingDone", (made(F, (), 3).words, 3)))
        self.assertEqual(climb == other, False)

    def test_trials(self):
        climb = self.climbed()
        before = told(climb)

        def action(one):
            one.drop("ab")
            return one.book()

        self.assertEqual(climb.trying(action), made(F, (), 3))
        self.assertEqual(told(climb), before)

        def further_back(one):
            while one.depth():
                one.back()
            error = error_of(one.back)
            one.up(0)
            found = one.trying(lambda within: [within.down(), within.up(0), within.up(0), within.book()][3])
            return (error, found, one.book())

        self.assertEqual(climb.trying(further_back), ("NothingDone", more(TWO)[0], TWO))
        self.assertEqual(told(climb), before)

        def failing(one):
            one.down()
            one.down()
            one.down()

        self.assertEqual(error_of(climb.trying, failing), "OneWay")
        self.assertEqual(told(climb), before)
        with self.assertRaises(ZeroDivisionError):
            climb.trying(lambda one: [one.back(), 1 // 0])
        self.assertEqual(told(climb), before)
        other = climb.trying(lambda one: [one.down(), one.copy()][1])
        self.assertEqual((other.book(), climb.book()), (TWO, THREE))
        self.assertIs(climb.trying(lambda one: one), climb)
        climb.back()
        self.assertEqual(climb.book(), TWO)


if __name__ == "__main__":
    unittest.main()
