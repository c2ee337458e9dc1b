"""The examples of the document that speak of what there is: e01 to e04, and of e15 two."""

import unittest

from neverjoin.books import Book, clash
from neverjoin.frames import frame
from neverjoin.making import free_web
from neverjoin.readings import readings, ways
from neverjoin.stretches import is_ring, many_stretches, round_rings
from neverjoin.webs import Web, after, surplus


class Examples(unittest.TestCase):
    def setUp(self):
        self.f = free_web("ab")
        self.g = Web(2, ((0, "a", 0), (0, "b", 1), (1, "a", 0)))
        self.two = Book(self.f, ("aa", "ab", "ba", "bb"))
        self.three = Book(self.f, ("aaa", "aaba", "aabb", "ab", "baa", "baba", "babb", "bba", "bbb"))

    def test_e01(self):
        self.assertEqual([many_stretches(self.g, length) for length in range(6)], [1, 2, 3, 5, 8, 13])
        self.assertEqual((after(self.g, "b"), surplus(self.f, "ab"), surplus(self.g, "")), ("a", 1, 0))

    def test_e02(self):
        self.assertIs(is_ring(self.g, "ab"), True)
        self.assertIs(is_ring(self.g, "b"), False)

    def test_e03(self):
        self.assertEqual(readings(self.two, "aba"), [(0, 2), (1, 3)])
        self.assertEqual(ways(self.three, "ab"), 2)

    def test_e04(self):
        self.assertEqual(clash(("ab", "b")), ("b", "ab"))

    def test_e15(self):
        self.assertEqual(frame(self.two, "b"), ("", "a"))
        self.assertEqual(round_rings(self.f, 4), ["aaab", "aabb", "abbb"])


if __name__ == "__main__":
    unittest.main()
