"""The examples of the document: e01 to e16."""

import unittest

from neverjoin.books import Book, clash
from neverjoin.carried import cut_down
from neverjoin.chances import mean
from neverjoin.dividing import divisors
from neverjoin.exchanges import path
from neverjoin.frames import frame
from neverjoin.full import all_ways, is_addable
from neverjoin.inner import barred, inner, made, word_count
from neverjoin.lanes import lanes, turn
from neverjoin.listing import many_books
from neverjoin.making import free_web, ring_web
from neverjoin.readings import readings, ways
from neverjoin.strangers import sure_cuts
from neverjoin.stretches import is_ring, many_stretches, round_rings
from neverjoin.texts import web_text
from neverjoin.tower import less, more
from neverjoin.towers import address
from neverjoin.webs import Web, after, surplus


class Examples(unittest.TestCase):
    def setUp(self):
        self.f = free_web("ab")
        self.g = Web(2, ((0, "a", 0), (0, "b", 1), (1, "a", 0)))
        self.two = Book(self.f, ("aa", "ab", "ba", "bb"))
        self.three = Book(self.f, ("aaa", "aaba", "aabb", "ab", "baa", "baba", "babb", "bba", "bbb"))

    def test_e01(self):
        self.assertEqual([many_stretches(self.g, length) for length in range(6)], [1, 2, 3, 5, 8, 13])
        self.assertEqual((after(self.g, "b"), surplus(self.f, "ab"), surplus(self.g, "")), ("a", 1, 0))

    def test_e02(self):
        self.assertIs(is_ring(self.g, "ab"), True)
        self.assertIs(is_ring(self.g, "b"), False)

    def test_e03(self):
        self.assertEqual(readings(self.two, "aba"), [(0, 2), (1, 3)])
        self.assertEqual(ways(self.three, "ab"), 2)

    def test_e04(self):
        self.assertEqual(clash(("ab", "b")), ("b", "ab"))

    def test_e05(self):
        self.assertEqual(all_ways(self.three), 3)
        self.assertIsNone(all_ways(Book(self.f, ("a",))))
        self.assertIs(is_addable(Book(self.f, ("a",)), "bab"), True)

    def test_e06(self):
        self.assertEqual(lanes(self.three, "aab"), [((0, 1), 2), ((2,), 1)])
        self.assertEqual(turn(self.three, "aab"), (2, 1, 0))

    def test_e07(self):
        self.assertEqual(inner(self.three), ("ab",))
        self.assertIs(made(self.f, ("ab",), 3) == self.three, True)
        kind, ring = barred(self.f, ("a",), 2)
        self.assertEqual((kind, ring), ("ring", "a" * max(1, len(ring))))

    def test_e08(self):
        self.assertEqual(word_count(self.three), (3, 5, 9))

    def test_e09(self):
        self.assertIs(less(self.three) == self.two, True)
        self.assertEqual(len(more(self.two)), 3)

    def test_e10(self):
        self.assertEqual([many_books(self.g, ways) for ways in (1, 2, 3, 4)], [1, 2, 4, 20])
        self.assertEqual(many_books(ring_web("abc"), 2), 7)

    def test_e11(self):
        self.assertEqual(path(self.three, made(self.f, (), 3)), [("out", "ab")])

    def test_e12(self):
        self.assertEqual(cut_down(self.three, self.g).words, ("aaa", "aaba", "ab", "baa", "baba"))

    def test_e13(self):
        self.assertEqual(mean(self.two, ((1, 3), (2, 3))), ((1, 1), (2, 1)))

    def test_e14(self):
        self.assertEqual(sure_cuts(self.two, "ab"), ())

    def test_e15(self):
        self.assertIs(divisors(made(self.f, (), 4)) == [self.two], True)
        self.assertEqual(len(address(self.three)), 2)
        self.assertEqual(frame(self.two, "b"), ("", "a"))
        self.assertEqual(round_rings(self.f, 4), ["aaab", "aabb", "abbb"])

    def test_e16(self):
        self.assertEqual(web_text(ring_web("aab")), "points 3\narrow 0 a 1\narrow 1 a 2\narrow 2 b 0\n")


if __name__ == "__main__":
    unittest.main()
