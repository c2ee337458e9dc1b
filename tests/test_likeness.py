"""Webs compared and settled: 2.3, 2.4."""

import unittest
from itertools import product

from neverjoin.errors import TooMany
from neverjoin.likeness import are_like, lies_in, unlike_text
from neverjoin.making import free_web, left_out, ring_web, rows_web, turned
from neverjoin.settling import settled
from neverjoin.stretches import many_stretches
from neverjoin.webs import Web, ends, is_stretch
from plain import EVEN, F, FORK, G, R, WEBS, leads_everywhere, random_web, walk_ends, walk_texts
from test_making import is_right

# Webs whose stretches have just 2000 and 2001 unlike tuples of ends.
JUST = Web(12, (
    (0, "b", 9), (0, "c", 5), (1, "a", 6), (1, "a", 9), (1, "b", 11), (1, "c", 1), (2, "b", 0), (2, "c", 4),
    (3, "a", 11), (3, "b", 2), (3, "c", 0), (4, "b", 6), (4, "c", 3), (5, "b", 7), (5, "c", 9), (6, "a", 1),
    (6, "a", 3), (6, "b", 1), (6, "c", 7), (7, "a", 5), (7, "b", 8), (7, "c", 2), (7, "c", 11), (8, "a", 7),
    (8, "b", 3), (8, "c", 8), (9, "a", 0), (9, "b", 2), (9, "c", 2), (9, "c", 11), (10, "a", 4), (10, "b", 4),
    (10, "c", 9), (10, "c", 10), (11, "b", 10), (11, "c", 6),
))
MORE = Web(12, (
    (0, "a", 2), (0, "b", 5), (1, "a", 4), (1, "b", 4), (1, "c", 3), (2, "a", 7), (2, "b", 6), (2, "c", 2),
    (3, "a", 6), (3, "b", 0), (3, "b", 7), (3, "c", 11), (4, "a", 5), (4, "c", 10), (5, "a", 3), (5, "b", 0),
    (5, "c", 9), (6, "b", 2), (6, "c", 4), (7, "a", 10), (7, "b", 1), (7, "c", 1), (8, "a", 5), (8, "b", 9),
    (8, "c", 5), (9, "a", 9), (9, "b", 8), (9, "c", 0), (9, "c", 4), (10, "a", 1), (10, "b", 3), (10, "c", 8),
    (11, "a", 0), (11, "a", 10), (11, "b", 11), (11, "c", 6),
))


def plain_unlike(one, other):
    """The least of the shortest unlike texts, by listing the lots of points to which texts lead."""
    signs = sorted({letter for _, letter, _ in one.arrows + other.arrows})
    start = (frozenset(range(one.points)), frozenset(range(other.points)))
    seen = {start}
    level = [("", start)]
    while level:
        found = []
        for text, lots in level:
            for sign in signs:
                after = tuple(
                    frozenset(end for begin, letter, end in web.arrows if begin in lot and letter == sign)
                    for web, lot in zip((one, other), lots)
                )
                if bool(after[0]) != bool(after[1]):
                    return text + sign
                if after[0] and after not in seen:
                    seen.add(after)
                    found.append((text + sign, after))
        level = found
    return None


def plain_ends(web):
    """The set of all unlike lots of ends of stretches."""
    signs = {letter for _, letter, _ in web.arrows}
    found = {frozenset(range(web.points))}
    waiting = list(found)
    while waiting:
        lot = waiting.pop()
        for sign in signs:
            after = frozenset(end for begin, letter, end in web.arrows if begin in lot and letter == sign)
            if after and after not in found:
                found.add(after)
                waiting.append(after)
    return found


def doubled(web, point):
    """A web with a point doubled: what leads to it or from it leads to both or from both."""
    twin = lambda one: [one, web.points] if one == point else [one]
    arrows = {(begin, letter, end) for old, letter, aim in web.arrows for begin in twin(old) for end in twin(aim)}
    return Web(web.points + 1, tuple(sorted(arrows)))


def forms(points, signs):
    """All webs of so many points from none of which two arrows with one letter lead."""
    for choice in product([None] + list(range(points)), repeat=points * len(signs)):
        arrows = [
            (place // len(signs), signs[place % len(signs)], end) for place, end in enumerate(choice) if end is not None
        ]
        if arrows and leads_everywhere(points, arrows):
            yield Web(points, tuple(arrows))


def is_settled_form(web):
    return len({(begin, letter) for begin, letter, _ in web.arrows}) == len(web.arrows)


class Likeness(unittest.TestCase):
    def check(self, one, other):
        text = unlike_text(one, other)
        self.assertEqual(text, plain_unlike(one, other))
        self.assertIs(are_like(one, other), text is None)
        if text is not None:
            self.assertNotEqual(bool(walk_ends(one, text)), bool(walk_ends(other, text)))

    def test_all_pairs(self):
        for one in WEBS[:34]:
            for other in WEBS[:34]:
                self.check(one, other)

    def test_lies_in_against_lists(self):
        for one in WEBS[:30]:
            for other in WEBS[:30]:
                # So many letters tell two webs of so few points apart, if any do.
                within = all(walk_texts(one, size) <= walk_texts(other, size) for size in range(9))
                self.assertIs(lies_in(one, other), within)

    def test_ordinary_ones(self):
        self.assertEqual((lies_in(G, F), lies_in(F, G), lies_in(F, F)), (True, False, True))
        self.assertEqual((unlike_text(G, F), unlike_text(F, G), unlike_text(R, F)), ("bb", "bb", "bb"))
        self.assertEqual(unlike_text(F, free_web("ac")), "b")
        self.assertEqual(unlike_text(free_web("bc"), free_web("ab")), "a")
        self.assertIsNone(unlike_text(ring_web("ab"), ring_web("ba")))
        self.assertIsNone(unlike_text(ring_web("abab"), ring_web("ab")))
        self.assertEqual(unlike_text(ring_web("aab"), ring_web("abb")), "aa")
        self.assertFalse(are_like(ring_web("abc"), ring_web("acb")))
        self.assertEqual(unlike_text(EVEN, F), "aba")
        self.assertTrue(lies_in(ring_web("abb"), EVEN))
        self.assertFalse(lies_in(ring_web("ab"), EVEN))

    def test_points_doubled(self):
        for web in WEBS[:30]:
            for point in range(web.points):
                if len(web.arrows) < 20:
                    other = doubled(web, point)
                    self.assertTrue(are_like(web, other))
                    self.assertIsNone(unlike_text(other, web))

    def test_an_arrow_more_or_fewer(self):
        for web in WEBS[:40]:
            for arrow in web.arrows:
                rest = tuple(one for one in web.arrows if one != arrow)
                if rest and leads_everywhere(web.points, rest):
                    other = Web(web.points, rest)
                    self.assertTrue(lies_in(other, web))
                    self.check(web, other)
            for begin, end in product(range(web.points), repeat=2):
                if (begin, "b", end) not in web.arrows:
                    other = Web(web.points, tuple(sorted(web.arrows + ((begin, "b", end),))))
                    self.assertTrue(lies_in(web, other))
                    self.check(web, other)

    def test_long_unlike_texts(self):
        self.assertEqual(unlike_text(free_web("a"), left_out("ab", ("bb",))), "b")
        self.assertEqual(unlike_text(rows_web(["a" * 19 + "b"]), rows_web(["a" * 18 + "b"])), "a" * 19)
        one = rows_web(["a" * 19 + "b", "b"])
        other = rows_web(["a" * 19 + "b", "b", "a" * 18 + "b"])
        self.assertEqual(unlike_text(one, other), "b" + "a" * 18 + "b")
        self.assertTrue(lies_in(one, other))

    def test_wide_ones(self):
        web = rows_web(["a" * 20, "ab" * 10, "abb" * 6, "b" * 20])
        self.assertTrue(are_like(web, web))
        self.assertTrue(lies_in(ring_web("a"), web))
        self.assertTrue(are_like(turned(turned(web)), web))
        self.check(web, turned(web))


class Settling(unittest.TestCase):
    def check(self, web):
        least = settled(web)
        self.assertTrue(is_right(least))
        self.assertTrue(is_settled_form(least))
        self.assertIsNone(plain_unlike(web, least))
        self.assertTrue(are_like(web, least))
        return least

    def test_known_ones(self):
        for web, points in ((F, 1), (G, 2), (R, 3), (EVEN, 2), (ring_web("aaa"), 1), (ring_web("abab"), 2), (free_web("a"), 1)):
            self.assertEqual(self.check(web).points, points)
        self.assertEqual(self.check(rows_web(("ab", "ba"))).points, 3)
        self.assertEqual(self.check(left_out("ab", ("bb",))).points, 2)
        self.assertEqual(settled(Web(2, ((0, "a", 1), (0, "b", 0), (1, "a", 0), (1, "b", 1)))), F)

    def test_as_few_points_as_any(self):
        for web in [FORK] + [random_web(seed, 3, "ab", 6) for seed in range(60)]:
            least = self.check(web)
            for points in range(1, min(least.points, 4)):
                for other in forms(points, "ab"):
                    self.assertIsNotNone(plain_unlike(web, other))

    def test_sizes_stay_with_other_forms(self):
        for web in WEBS:
            least = self.check(web)
            self.assertEqual(self.check(least).points, least.points)
            if web.points < 12 and len(web.arrows) < 15:
                self.assertEqual(self.check(doubled(web, 0)).points, least.points)

    def test_just_so_many_ends(self):
        self.assertEqual((len(plain_ends(JUST)), len(plain_ends(MORE))), (2000, 2001))
        least = settled(JUST)
        self.assertTrue(is_settled_form(least))
        self.assertTrue(is_stretch(least, "abc"))
        self.assertTrue(lies_in(least, JUST))
        self.assertTrue(lies_in(JUST, least))
        with self.assertRaises(TooMany) as caught:
            settled(MORE)
        self.assertEqual(caught.exception.most, 2000)

    def test_wide_ones(self):
        web = rows_web(["a" * 20, "ab" * 10, "b" * 20])
        least = self.check(web)
        self.assertEqual([many_stretches(web, size) for size in range(8)], [many_stretches(least, size) for size in range(8)])
        self.assertEqual(len(ends(least, "")), least.points)

    def test_equal_calls_and_webs_that_stay(self):
        arrows = tuple(list(FORK.arrows))
        self.assertEqual(settled(FORK), settled(Web(3, arrows)))
        self.assertEqual(FORK.arrows, arrows)


if __name__ == "__main__":
    unittest.main()
