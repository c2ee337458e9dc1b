"""Stocks: 12.2."""

import random
import unittest

from neverjoin.books import Book
from neverjoin.inner import inner, made
from neverjoin.making import free_web, ring_web, rows_web
from neverjoin.stocks import Stock
from plain import (
    EVEN, F, FORK, G, R, WEBS, all_texts, clash_free, error_of, is_plain_integer, is_text, odd_things, plain_made,
    plain_ways, stretches_up_to, walk_ends,
)

# More than 2000 stretches of up to four letters.
WIDER = free_web("abcdefgh")


def fits(web, lot, ways):
    """Whether some texts are the inner words of a full book with so many ways, by the words of the document."""
    if len(set(lot)) < len(lot) or len(lot) > 400 or not clash_free(lot):
        return False
    if not all(1 <= len(word) <= 60 and walk_ends(web, word) for word in lot):
        return False
    return plain_made(web, tuple(sorted(lot)), ways) is not None


def told(stock):
    return (stock.lot(), stock.depth())


class Led(unittest.TestCase):
    def test_drawn_words(self):
        counts = {"put": 0, "drop": 0, "NoWord": 0}
        for number, web in enumerate(WEBS[::2]):
            source = random.Random(number)
            ways = source.randint(1, 4 if len({letter for _, letter, _ in web.arrows}) < 3 else 3)
            stock = Stock(web, ways)
            kept = []
            lot = ()
            texts = [text for text in stretches_up_to(web, 3) if text] + ["", "c", "abcb"]
            for _ in range(25):
                choice = source.random()
                if choice < 0.55:
                    self.lead(stock.put, source.choice(texts), lot, kept, counts, web, ways)
                elif choice < 0.85:
                    self.lead(stock.drop, source.choice(list(lot) + texts[:3]), lot, kept, counts, web, ways)
                elif kept:
                    stock.back()
                    kept.pop()
                else:
                    self.assertEqual(error_of(stock.back), "NothingDone")
                lot = kept[-1] if kept else ()
                self.assertEqual(told(stock), (lot, len(kept)))
                book = stock.book()
                self.assertEqual((book.web, book.words), (web, plain_made(web, lot, ways)))
        self.assertGreater(min(counts.values()), 20)

    def lead(self, call, text, lot, kept, counts, web, ways):
        if call.__name__ == "put":
            other = tuple(sorted(lot + (text,)))
            right = fits(web, other, ways)
        else:
            other = tuple(word for word in lot if word != text)
            right = text in lot and fits(web, other, ways)
        error = error_of(call, text)
        if right:
            counts[call.__name__] += 1
            self.assertIsNone(error)
            kept.append(other)
        else:
            counts["NoWord"] += 1
            self.assertEqual(error, "NoWord")

    def test_ordinary_ones(self):
        stock = Stock(F, 3)
        self.assertEqual(told(stock), ((), 0))
        self.assertEqual(stock.book(), made(F, (), 3))
        self.assertIsNone(stock.put("ab"))
        self.assertEqual(told(stock), (("ab",), 1))
        self.assertEqual(stock.book(), made(F, ("ab",), 3))
        self.assertIsNone(stock.drop("ab"))
        self.assertEqual(told(stock), ((), 2))
        self.assertIs(type(stock.lot()), tuple)
        # The words stand ascending, in whatever order they are put.
        stock = Stock(F, 5)
        for text in ("ba", "aabb"):
            stock.put(text)
        self.assertEqual(stock.lot(), ("aabb", "ba"))
        self.assertEqual(inner(stock.book()), ("aabb", "ba"))
        stock = Stock(G, 2)
        stock.put("b")
        self.assertEqual(stock.book(), made(G, ("b",), 2))

    def test_ways(self):
        for ways in (1, 6):
            self.assertEqual(Stock(F, ways).book(), made(F, (), ways))
        for thing in [0, 7, -1, 10 ** 39] + [thing for thing in odd_things() if not is_plain_integer(thing)]:
            self.assertEqual(error_of(Stock, F, thing), "NoNumber")
        stock = Stock(F, 1)
        for text in all_texts("ab", 2) + ["a", "b", "aabb"]:
            self.assertEqual(error_of(stock.put, text), "NoWord")
        stock = Stock(F, 6)
        for text in ("aabb", "ab"):
            stock.put(text)
        self.assertEqual(stock.lot(), ("aabb", "ab"))

    def test_words_that_cannot_be_put(self):
        stock = Stock(F, 4)
        stock.put("ab")
        # There already, beginning it, ending it, begun or ended by it, none at all, covering a ring with it.
        for text in ("ab", "a", "b", "aba", "bab", "aab", "abb", "", "c", "ba", "a" * 61, "AB"):
            self.assertEqual(error_of(stock.put, text), "NoWord", text)
        self.assertEqual(told(stock), (("ab",), 1))
        stock.put("aabb")
        self.assertEqual(stock.lot(), ("aabb", "ab"))
        # Without ab there are as many readings of aabb as ways.
        self.assertEqual(plain_ways(("aabb",), "aabb"), 4)
        self.assertEqual(error_of(stock.drop, "ab"), "NoWord")
        self.assertEqual(told(stock), (("aabb", "ab"), 2))
        stock.drop("aabb")
        stock.drop("ab")
        self.assertEqual(told(stock), ((), 4))
        for text in ("ab", "", "a", "c"):
            self.assertEqual(error_of(stock.drop, text), "NoWord")
        # As many readings as ways.
        self.assertEqual(error_of(Stock(F, 2).put, "ab"), "NoWord")
        self.assertEqual(error_of(Stock(F, 3).put, "aab"), "NoWord")
        self.assertIsNone(error_of(Stock(F, 4).put, "aab"))
        # A ring.
        for ways in (2, 6):
            self.assertEqual(error_of(Stock(F, ways).put, "a"), "NoWord")
        self.assertIsNone(error_of(Stock(G, 2).put, "b"))
        self.assertEqual(error_of(Stock(G, 4).put, "bb"), "NoWord")
        self.assertEqual(error_of(Stock(ring_web("ab"), 6).put, "ab"), None)
        stock = Stock(ring_web("ab"), 6)
        stock.put("ab")
        self.assertEqual(error_of(stock.put, "ba"), "NoWord")

    def test_long_words(self):
        ring = ring_web("abc")
        text = "abc" * 20
        self.assertEqual(error_of(Stock(ring, 6).put, text), "NoWord")
        stock = Stock(WIDER, 6)
        self.assertEqual(error_of(stock.put, "a" * 60), "NoWord")
        stock.put("ab")
        self.assertEqual(error_of(stock.book), "TooMany 2000")

    def test_most_words(self):
        stock = Stock(free_web("abcdefghijkl"), 4)
        rising = [text for text in all_texts("abcdefghijkl", 3) if text[0] < text[1]]
        for text in rising[:400]:
            stock.put(text)
        self.assertEqual(stock.lot(), tuple(rising[:400]))
        self.assertEqual(error_of(stock.put, rising[400]), "NoWord")
        stock.drop(rising[0])
        self.assertIsNone(error_of(stock.put, rising[400]))
        self.assertEqual(stock.depth(), 402)

    def test_any_things(self):
        stock = Stock(F, 3)
        stock.put("ab")
        for thing in odd_things():
            self.assertEqual(error_of(stock.put, thing), "NoWord")
            if not (is_text(thing) and thing == "ab"):
                self.assertEqual(error_of(stock.drop, thing), "NoWord")
            self.assertEqual(told(stock), (("ab",), 1))

    def test_books_that_are_too_large(self):
        stock = Stock(WIDER, 6)
        self.assertEqual(error_of(stock.book), "TooMany 2000")
        self.assertEqual(told(stock), ((), 0))
        stock = Stock(WIDER, 4)
        self.assertEqual(len(stock.book().words), 8 ** 4)

    def test_just_so_many_stretches_within(self):
        # Of the stretches of up to four letters there are just 2000, and one more than that.
        eight = (
            (0, "a", 0), (0, "c", 0), (0, "d", 1), (0, "e", 0), (0, "f", 0), (0, "f", 1), (0, "g", 0), (0, "g", 1), (1, "a", 0),
            (1, "e", 0), (1, "e", 1), (1, "f", 1), (1, "h", 0), (1, "h", 1),
        )
        wider = (
            (0, "a", 1), (0, "b", 1), (0, "c", 1), (0, "e", 0), (0, "e", 1), (0, "h", 1), (1, "a", 0), (1, "b", 1), (1, "c", 1),
            (1, "d", 0), (1, "d", 1), (1, "e", 0), (1, "f", 1),
        )
        web = type(F)
        self.assertIsNone(error_of(Stock(web(2, eight), 6).book))
        self.assertEqual(error_of(Stock(web(2, wider), 6).book), "TooMany 2000")
        stock = Stock(web(2, eight), 6)
        stock.put("da")
        self.assertEqual(error_of(stock.book), "TooMany 2000")

    def test_webs_of_any_size(self):
        wide = rows_web(["aab" * 6, "b" * 20, "ab" * 10])
        stock = Stock(wide, 5)
        stock.put("aab")
        self.assertEqual(stock.book(), made(wide, ("aab",), 5))


class Back(unittest.TestCase):
    def test_back_to_the_beginning_and_behind_it(self):
        stock = Stock(F, 4)
        self.assertEqual(error_of(stock.back), "NothingDone")
        lots = [()]
        for call, text in ((stock.put, "ab"), (stock.put, "aabb"), (stock.drop, "aabb"), (stock.drop, "ab"), (stock.put, "ba")):
            call(text)
            lots.append(stock.lot())
        self.assertEqual(lots, [(), ("ab",), ("aabb", "ab"), ("ab",), (), ("ba",)])
        for many in range(4, -1, -1):
            self.assertIsNone(stock.back())
            self.assertEqual(told(stock), (lots[many], many))
        self.assertEqual(error_of(stock.back), "NothingDone")
        self.assertEqual(told(stock), ((), 0))

    def test_copies_led_apart(self):
        stock = Stock(F, 4)
        stock.put("ab")
        other = stock.copy()
        self.assertIs(type(other), Stock)
        self.assertEqual(told(other), told(stock))
        other.put("aabb")
        stock.drop("ab")
        self.assertEqual((stock.lot(), other.lot()), ((), ("aabb", "ab")))
        self.assertEqual(other.book(), made(F, ("aabb", "ab"), 4))
        other.back()
        other.back()
        self.assertEqual((error_of(other.back), told(stock)), ("NothingDone", ((), 2)))
        self.assertEqual(error_of(Stock(F, 2).copy().put, "ab"), "NoWord")
        self.assertEqual(stock == other, False)

    def test_trials(self):
        stock = Stock(F, 4)
        stock.put("ab")

        def action(one):
            one.put("aabb")
            return one.lot()

        self.assertEqual(stock.trying(action), ("aabb", "ab"))
        self.assertEqual(told(stock), (("ab",), 1))

        def further_back(one):
            one.back()
            error = error_of(one.back)
            one.put("ba")
            found = one.trying(lambda within: [within.back(), within.put("aab"), within.lot()])
            return (error, found, one.lot())

        self.assertEqual(stock.trying(further_back), ("NothingDone", [None, None, ("aab",)], ("ba",)))
        self.assertEqual(told(stock), (("ab",), 1))

        def failing(one):
            one.back()
            one.put("ba")
            one.put("ba")

        self.assertEqual(error_of(stock.trying, failing), "NoWord")
        self.assertEqual(told(stock), (("ab",), 1))
        with self.assertRaises(KeyError):
            stock.trying(lambda one: {}[one.drop("ab")])
        self.assertEqual(told(stock), (("ab",), 1))
        other = stock.trying(lambda one: [one.put("aabb"), one.copy()][1])
        self.assertEqual((other.lot(), stock.lot()), (("aabb", "ab"), ("ab",)))
        self.assertIs(stock.trying(lambda one: one), stock)

    def test_equal_webs_made_apart(self):
        for web, other in ((F, free_web("ab")), (R, ring_web("aab")), (EVEN, type(F)(2, EVEN.arrows)), (FORK, type(F)(3, FORK.arrows))):
            one, two = Stock(web, 3), Stock(other, 3)
            for text in ("ab", "ba", "b", "aa"):
                self.assertEqual(error_of(one.put, text), error_of(two.put, text))
            self.assertEqual((one.lot(), one.book()), (two.lot(), two.book()))
            self.assertIs(type(one.book()), Book)


if __name__ == "__main__":
    unittest.main()
