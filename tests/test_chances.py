"""Chances: 10.1."""

import random
import unittest
from fractions import Fraction
from math import gcd

from neverjoin.books import Book
from neverjoin.chances import chance, mean, shares
from neverjoin.inner import made
from neverjoin.making import free_web, left_out, ring_web, rows_web
from neverjoin.webs import Web
from plain import (
    BOOKS, EVEN, F, FORK, FULL, G, NOT_FULL, R, THREE, TWO, WEBS, error_of, is_text, odd_things, stretches_up_to, walk_ends,
    walk_texts,
)


def drawn_chances(web, seed, most=1000):
    """Chances for a web made from a seed, with bottoms of at most so much."""
    source = random.Random(seed)
    found = {}
    for point in range(web.points):
        numbers = [number for number, arrow in enumerate(web.arrows) if arrow[0] == point]
        bottom = source.randint(len(numbers), max(most, len(numbers)))
        cuts = sorted(source.sample(range(1, bottom), len(numbers) - 1))
        for number, low, high in zip(numbers, [0] + cuts, cuts + [bottom]):
            shared = gcd(high - low, bottom)
            found[number] = ((high - low) // shared, bottom // shared)
    return tuple(found[number] for number in range(len(web.arrows)))


def value(fraction):
    """A fraction of the package as one of Python's own; it has to be in lowest terms."""
    top, bottom = fraction
    if type(fraction) is not tuple or type(top) is not int or type(bottom) is not int or bottom < 1 or gcd(top, bottom) != 1:
        raise AssertionError(fraction)
    return Fraction(top, bottom)


def solved(web, chances):
    """The shares of the points, by putting equations into one another."""
    size = web.points
    rows = [[Fraction(0)] * size + [Fraction(0)] for _ in range(size)]
    for point in range(size):
        rows[point][point] -= 1
    for (begin, _, end), part in zip(web.arrows, chances):
        rows[end][begin] += Fraction(*part)
    rows[-1] = [Fraction(1)] * (size + 1)
    for at in range(size):
        best = next(row for row in range(at, size) if rows[row][at] != 0)
        rows[at], rows[best] = rows[best], rows[at]
        rows[at] = [part / rows[at][at] for part in rows[at]]
        for row in range(size):
            if row != at:
                rows[row] = [one - rows[row][at] * other for one, other in zip(rows[row], rows[at])]
    return [row[-1] for row in rows]


def walk_chance(web, chances, start, text):
    """The chance of a text, each walk with it gone by itself."""
    walks = [(point, share) for point, share in enumerate(start)]
    for sign in text:
        walks = [
            (end, held * Fraction(*part)) for point, held in walks for (begin, letter, end), part in zip(web.arrows, chances)
            if begin == point and letter == sign
        ]
    return sum(held for _, held in walks)


class Shares(unittest.TestCase):
    def test_against_equations(self):
        for number, web in enumerate(WEBS):
            for seed in range(3):
                chances = drawn_chances(web, number + 100 * seed, (12, 60, 1000)[seed])
                found = shares(web, chances)
                self.assertIs(type(found), tuple)
                self.assertEqual([value(share) for share in found], solved(web, chances))

    def test_ordinary_ones(self):
        self.assertEqual(shares(G, ((1, 3), (2, 3), (1, 1))), ((3, 5), (2, 5)))
        self.assertEqual(shares(F, ((1, 3), (2, 3))), ((1, 1),))
        self.assertEqual(shares(R, ((1, 1),) * 3), ((1, 3),) * 3)
        self.assertEqual(shares(free_web("a"), ((1, 1),)), ((1, 1),))
        self.assertEqual(shares(EVEN, ((1, 1000), (999, 1000), (1, 1))), ((1000, 1999), (999, 1999)))

    def test_webs_of_any_size(self):
        source = random.Random(3)
        drawn = ["".join(source.choice("abc") for _ in range(20)) for _ in range(20)]
        for web in (rows_web(drawn), rows_web(["aab" * 6, "b" * 20, "ab" * 10]), left_out("abcdefghijkl", ["abc", "la", "bcd"])):
            chances = drawn_chances(web, 1)
            found = [value(share) for share in shares(web, chances)]
            led = [Fraction(0)] * web.points
            for (begin, _, end), part in zip(web.arrows, chances):
                led[end] += found[begin] * Fraction(*part)
            self.assertEqual((found, sum(found)), (led, 1))
        # As many points and arrows as can be.
        arrows = sorted({(at, "abcde"[more], (at + more * more + 1) % 12) for at in range(12) for more in range(5)})
        whole = Web(12, tuple(arrows))
        self.assertEqual(len(arrows), 60)
        chances = drawn_chances(whole, 5)
        self.assertEqual([value(share) for share in shares(whole, chances)], solved(whole, chances))


class Judged(unittest.TestCase):
    def calls(self, web, thing):
        return {
            error_of(shares, web, thing), error_of(chance, web, thing, ""), error_of(mean, Book(web, ()), thing),
        }

    def test_what_are_none(self):
        wrong = [
            (), ((1, 1),), ((1, 2), (1, 3)), ((1, 2), (1, 2), (1, 2)), ((2, 4), (1, 2)), ((1, 2), (2, 4)), ((0, 1), (1, 1)),
            ((1, 1), (0, 1)), ((-1, 2), (3, 2)), ((3, 2), (-1, 2)), ((1, -2), (1, 2)), ((-1, -2), (1, 2)), ((1, 2), (1, 0)),
            [(1, 2), (1, 2)], ([1, 2], [1, 2]), ((1, 2), [1, 2]), ((1, 2, 3), (1, 2)), ((1,), (1, 2)), ((True, 2), (1, 2)),
            ((1, 2), (1, True)), (("1", 2), (1, 2)), ((1, 2), None), (1, 2), ((1, 2), "ab"), {(1, 2): (1, 2)}, ((1, 1), (1, 1)),
            ((10 ** 39, 10 ** 39 + 1), (1, 10 ** 39 + 1)), ((1, 10 ** 39), (10 ** 39 - 1, 10 ** 39)), (("a", "b"), ("b", "a")),
        ]
        for thing in wrong + odd_things():
            self.assertEqual(self.calls(F, thing), {"NoChances"}, thing)
            self.assertEqual(error_of(chance, F, thing, "c"), "NoChances")
            self.assertEqual(error_of(chance, F, thing, None), "NoChances")
            self.assertEqual(error_of(mean, TWO, thing), "NoChances")
        for thing in odd_things():
            self.assertEqual(self.calls(F, (thing, (1, 2))), {"NoChances"})
            self.assertEqual(self.calls(F, ((1, 2), (thing, 2))), {"NoChances"} if thing is True or thing != 1 else {None})
            self.assertEqual(self.calls(F, ((1, 2), (1, thing))), {"NoChances"} if thing is True or thing != 2 else {None})

    def test_bottoms(self):
        for bottom in (999, 1000):
            self.assertEqual(self.calls(F, ((1, bottom), (bottom - 1, bottom))), {None})
        for bottom in (1001, 1002, 2001):
            self.assertEqual(self.calls(F, ((1, bottom), (bottom - 1, bottom))), {"NoChances"})
        # Bottoms that come to 1 only together.
        self.assertEqual(self.calls(free_web("abc"), ((1, 2), (1, 3), (1, 6))), {None})
        self.assertEqual(self.calls(free_web("abc"), ((1, 2), (1, 3), (1, 7))), {"NoChances"})

    def test_one_arrow_alone(self):
        self.assertEqual(self.calls(R, ((1, 1), (1, 1), (1, 1))), {None})
        for thing in ((1, 2), (2, 1), (0, 1), (2, 2), (1, True), (True, 1)):
            self.assertEqual(self.calls(R, ((1, 1), thing, (1, 1))), {"NoChances"})
        self.assertEqual(self.calls(G, ((1, 2), (1, 2), (1, 2))), {"NoChances"})
        # Together they may be right, but not those from each point.
        self.assertEqual(self.calls(G, ((1, 2), (1, 3), (1, 6))), {"NoChances"})
        self.assertEqual(self.calls(G, ((1, 1), (1, 2), (1, 2))), {"NoChances"})
        self.assertEqual(self.calls(free_web("a"), ((1, 1),)), {None})


class Chance(unittest.TestCase):
    def test_against_walks(self):
        for number, web in enumerate(WEBS[::2]):
            chances = drawn_chances(web, number)
            start = solved(web, chances)
            for text in stretches_up_to(web, 4):
                self.assertEqual(value(chance(web, chances, text)), walk_chance(web, chances, start, text))

    def test_of_one_length_they_come_to_1(self):
        for number, web in enumerate(WEBS[1::3]):
            chances = drawn_chances(web, number)
            for size in range(5):
                self.assertEqual(sum(value(chance(web, chances, text)) for text in walk_texts(web, size)), 1)

    def test_ordinary_ones(self):
        third = ((1, 3), (2, 3))
        self.assertEqual(chance(F, third, ""), (1, 1))
        self.assertEqual(chance(F, third, "ab"), (2, 9))
        self.assertEqual(chance(F, third, "aabb"), (4, 81))
        self.assertEqual(chance(R, ((1, 1),) * 3, "a"), (2, 3))
        self.assertEqual(chance(R, ((1, 1),) * 3, "aba"), (1, 3))
        # Several arrows of one letter lead from a point, and walks with one text are several.
        self.assertEqual(chance(free_web("a"), ((1, 1),), "a" * 400), (1, 1))
        forked = Web(2, ((0, "a", 0), (0, "a", 1), (1, "b", 0)))
        self.assertEqual(chance(forked, ((1, 2), (1, 2), (1, 1)), "a"), (2, 3))
        self.assertEqual(chance(forked, ((1, 2), (1, 2), (1, 1)), "ab"), (1, 3))

    def test_long_stretches(self):
        self.assertEqual(chance(F, ((1, 1000), (999, 1000)), "a" * 400), (1, 1000 ** 400))
        self.assertEqual(value(chance(F, ((1, 3), (2, 3)), "ab" * 200)), Fraction(2, 9) ** 200)
        text = "ab" * 200
        chances = drawn_chances(FORK, 2)
        self.assertEqual(value(chance(FORK, chances, "ab" * 30)), held_chance(FORK, chances, "ab" * 30))
        self.assertEqual(value(chance(FORK, chances, text)), held_chance(FORK, chances, text))

    def test_what_is_no_stretch(self):
        chances = ((1, 3), (2, 3), (1, 1))
        for thing in odd_things() + ["bb", "c", "abba", "a b"]:
            if not (is_text(thing) and walk_ends(G, thing)):
                self.assertEqual(error_of(chance, G, chances, thing), "NoStretch")
                self.assertEqual(error_of(chance, G, chances[:2], thing), "NoChances")
            else:
                self.assertIsNone(error_of(chance, G, chances, thing))


def held_chance(web, chances, text):
    """The chance of a text, by how much of it is held at each point."""
    held = solved(web, chances)
    for sign in text:
        coming = [Fraction(0)] * web.points
        for (begin, letter, end), part in zip(web.arrows, chances):
            if letter == sign:
                coming[end] += held[begin] * Fraction(*part)
        held = coming
    return sum(held)


class Mean(unittest.TestCase):
    def test_ninth_fact(self):
        for number, (book, ways, _) in enumerate(FULL):
            self.assertEqual(mean(book, drawn_chances(book.web, number)), ((1, 1), (ways, 1)))

    def test_any_books(self):
        for number, book in enumerate(BOOKS + NOT_FULL):
            chances = drawn_chances(book.web, number)
            start = solved(book.web, chances)
            parts = [(walk_chance(book.web, chances, start, word), len(word)) for word in book.words]
            whole, letters = mean(book, chances)
            self.assertEqual(value(whole), sum(part for part, _ in parts))
            self.assertEqual(value(letters), sum(part * size for part, size in parts))
            self.assertIs(type(mean(book, chances)), tuple)

    def test_ordinary_ones(self):
        self.assertEqual(mean(TWO, ((1, 3), (2, 3))), ((1, 1), (2, 1)))
        self.assertEqual(mean(THREE, ((1, 1000), (999, 1000))), ((1, 1), (3, 1)))
        self.assertEqual(mean(Book(F, ()), ((1, 3), (2, 3))), ((0, 1), (0, 1)))
        self.assertEqual(mean(Book(F, ("a",)), ((1, 3), (2, 3))), ((1, 3), (1, 3)))
        self.assertEqual(mean(Book(F, ("ab",)), ((1, 3), (2, 3))), ((2, 9), (4, 9)))
        self.assertEqual(mean(Book(free_web("a"), ("a" * 60,)), ((1, 1),)), ((1, 1), (60, 1)))
        # Each chance is a half, and the ring has a word at every second place alone.
        self.assertEqual(mean(Book(ring_web("ab"), ("ab",)), ((1, 1), (1, 1))), ((1, 2), (1, 1)))

    def test_books_of_any_size(self):
        twelve = free_web("abcdefghijkl")
        self.assertEqual(mean(made(twelve, ("ab",), 3), drawn_chances(twelve, 1)), ((1, 1), (3, 1)))
        wide = rows_web(["aab" * 6, "b" * 20, "ab" * 10])
        self.assertEqual(mean(made(wide, ("aab",), 5), drawn_chances(wide, 1)), ((1, 1), (5, 1)))

    def test_what_is_passed_stays(self):
        chances = ((1, 3), (2, 3))
        self.assertEqual([mean(TWO, chances) for _ in range(2)], [mean(Book(free_web("ab"), TWO.words), ((1, 3), (2, 3)))] * 2)
        self.assertEqual(chances, ((1, 3), (2, 3)))


if __name__ == "__main__":
    unittest.main()
