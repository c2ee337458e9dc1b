"""Lanes and turns: 5.1 to 5.3."""

import random
import unittest

from neverjoin.books import Book
from neverjoin.inner import made
from neverjoin.lanes import lane_words, lanes, since, turn, turns
from neverjoin.making import free_web
from neverjoin.stretches import is_ring, rings
from plain import FULL, G, NOT_FULL, R, THREE, TWO, error_of, is_plain_integer, odd_things


def word_at(words, ring, place):
    """The word that begins at a place of a ring, gone round endlessly."""
    text = "".join(ring[(place + step) % len(ring)] for step in range(max(len(word) for word in words)))
    (word,) = [word for word in words if text.startswith(word)]
    return word


def plain_lanes(words, ring):
    """The lanes with their words as triples (places, rounds, words), place by place."""
    found = []
    for start in range(len(ring)):
        if any(start in places for places, _, _ in found):
            continue
        places, came, place = [], [], start
        while not places or place % len(ring) != start:
            places.append(place % len(ring))
            came.append(word_at(words, ring, place))
            place += len(came[-1])
        found.append((tuple(places), (place - start) // len(ring), tuple(came)))
    return sorted(found)


def plain_ages(words, ring):
    """How many letters ago, at place 0, each way was cut last: of all cuts far enough back those whose word ends behind."""
    longest = max(len(word) for word in words)
    return [age for age in range(longest + 1) if len(word_at(words, ring, -age)) > age]


def plain_turn(words, ring):
    """The turn by following each way for a round."""
    ages = plain_ages(words, ring)
    found = []
    for age in ages:
        cuts = [-age]
        while cuts[-1] <= len(ring):
            cuts.append(cuts[-1] + len(word_at(words, ring, cuts[-1])))
        found.append(ages.index(len(ring) - max(cut for cut in cuts if cut <= len(ring))))
    return tuple(found)


def circles(numbers):
    """The lengths of the circles of a row of numbers, ascending."""
    seen, found = set(), []
    for start in range(len(numbers)):
        many, place = 0, start
        while place not in seen:
            seen.add(place)
            place = numbers[place]
            many += 1
        if many:
            found.append(many)
    return sorted(found)


def some_rings(web):
    found = [ring for size in range(1, 6) for ring in rings(web, size)]
    return random.Random(len(found)).sample(found, min(12, len(found)))


class Lanes(unittest.TestCase):
    def test_place_by_place(self):
        for book, many, _ in FULL:
            for ring in some_rings(book.web):
                known = plain_lanes(book.words, ring)
                self.assertEqual(lanes(book, ring), [(places, rounds) for places, rounds, _ in known])
                self.assertEqual(lane_words(book, ring), [words for _, _, words in known])
                # The third fact.
                self.assertEqual(sorted(place for places, _ in lanes(book, ring) for place in places), list(range(len(ring))))
                self.assertEqual(sum(rounds for _, rounds in lanes(book, ring)), many)
                self.assertEqual(sum(len(word) for words in lane_words(book, ring) for word in words), len(ring) * many)

    def test_turns_of_rings(self):
        for book, many, _ in FULL:
            for ring in some_rings(book.web):
                self.assertEqual(since(book, ring), tuple(plain_ages(book.words, ring)))
                self.assertEqual(turn(book, ring), plain_turn(book.words, ring))
                self.assertEqual(sorted(turn(book, ring)), list(range(many)))
                self.assertEqual(circles(turn(book, ring)), sorted(rounds for _, rounds in lanes(book, ring)))
                self.assertEqual((since(book, ring)[0], len(since(book, ring))), (0, many))

    def test_ordinary_ones(self):
        self.assertEqual(lanes(THREE, "aab"), [((0, 1), 2), ((2,), 1)])
        self.assertEqual(lane_words(THREE, "aab"), [("aaba", "ab"), ("baa",)])
        self.assertEqual(turn(THREE, "aab"), (2, 1, 0))
        self.assertEqual(since(THREE, "aab"), (0, 1, 3))
        self.assertEqual(lanes(TWO, "ab"), [((0,), 1), ((1,), 1)])
        self.assertEqual(lanes(TWO, "aba"), [((0, 2, 1), 2)])
        self.assertEqual(lanes(Book(R, ("a", "b")), "aab"), [((0, 1, 2), 1)])

    def test_rounds_of_one_letter(self):
        for many in (1, 2, 3, 7, 60):
            book = Book(free_web("a"), ("a" * many,))
            self.assertEqual(lanes(book, "a"), [((0,), many)])
            self.assertEqual(lane_words(book, "a"), [("a" * many,)])
            self.assertEqual(since(book, "a"), tuple(range(many)))
            self.assertEqual(turn(book, "a"), tuple((at + 1) % many for at in range(many)))
        self.assertEqual(turn(Book(free_web("a"), ("aaa",)), "aaaa"), (1, 2, 0))
        self.assertEqual(turn(Book(free_web("a"), ("aaa",)), "aaa"), (0, 1, 2))

    def test_long_rings(self):
        for ring in ("a" * 400, "ab" * 200, "aab" * 133, "b" * 399):
            for book in (TWO, THREE):
                known = plain_lanes(book.words, ring)
                self.assertEqual(lanes(book, ring), [(places, rounds) for places, rounds, _ in known])
                self.assertEqual(lane_words(book, ring), [words for _, _, words in known])
                self.assertEqual(turn(book, ring), plain_turn(book.words, ring))
        self.assertEqual(lanes(TWO, "a" * 400), [(tuple(range(0, 400, 2)), 1), (tuple(range(1, 400, 2)), 1)])
        self.assertEqual(lanes(TWO, "a" * 399), [(tuple(range(0, 399, 2)) + tuple(range(1, 399, 2)), 2)])

    def test_several_rounds_are_a_ring(self):
        for ring in ("ab", "abab", "ababab"):
            self.assertEqual(lanes(THREE, ring), [(places, rounds) for places, rounds, _ in plain_lanes(THREE.words, ring)])
            self.assertEqual(turn(THREE, ring), plain_turn(THREE.words, ring))

    def test_full_before_ring(self):
        for function in (lanes, lane_words, turn, since):
            for book in NOT_FULL:
                self.assertEqual(error_of(function, book, "ab"), "NotFull")
                self.assertEqual(error_of(function, book, None), "NotFull")
            book = Book(G, ("a", "b"))
            for thing in odd_things() + ["", "b", "bb", "bab", "abc", "A", ["a"], ("a",)]:
                if is_ring(G, thing):
                    self.assertIsNone(error_of(function, book, thing))
                    continue
                self.assertEqual(error_of(function, book, thing), "NoRing")

    def test_lists_are_new(self):
        for function in (lanes, lane_words):
            first = function(TWO, "ab")
            first.append(0)
            self.assertEqual(function(TWO, "ab"), first[:-1])
            self.assertIs(type(first), list)
            self.assertIs(type(first[0]), tuple)
        self.assertIs(type(turn(TWO, "ab")), tuple)
        self.assertIs(type(since(TWO, "ab")), tuple)


class Turns(unittest.TestCase):
    def test_against_all_rings(self):
        for book, _, _ in FULL:
            for size in range(1, 5):
                known = {plain_turn(book.words, ring) for ring in rings(book.web, size)}
                self.assertEqual(turns(book, size), sorted(known))

    def test_bounds(self):
        one = Book(free_web("a"), ("aaa",))
        self.assertEqual([turns(one, size) for size in (1, 2, 3, 30)], [[(1, 2, 0)], [(2, 0, 1)], [(0, 1, 2)], [(0, 1, 2)]])
        self.assertEqual(turns(TWO, 1), [(1, 0)])
        self.assertEqual(turns(TWO, 10), [(0, 1)])
        self.assertEqual(turns(Book(R, ("a", "b")), 2), [])
        self.assertEqual(turns(Book(R, ("a", "b")), 30), [(0,)])
        self.assertEqual(error_of(turns, TWO, 11), "TooMany 2000")
        self.assertEqual(error_of(turns, TWO, 30), "TooMany 2000")
        self.assertEqual(error_of(turns, made(G, (), 2), 15), None)
        self.assertEqual(error_of(turns, made(G, (), 2), 16), "TooMany 2000")

    def test_errors_in_order(self):
        for thing in [0, -1, 31, 10 ** 39] + [thing for thing in odd_things() if not is_plain_integer(thing)]:
            self.assertEqual(error_of(turns, TWO, thing), "NoNumber")
            for book in NOT_FULL:
                self.assertEqual(error_of(turns, book, thing), "NotFull")
        for book in NOT_FULL:
            self.assertEqual(error_of(turns, book, 30), "NotFull")
            self.assertEqual(error_of(turns, book, 3), "NotFull")

    def test_lists_are_new(self):
        first = turns(TWO, 1)
        first.append(0)
        self.assertEqual(turns(TWO, 1), [(1, 0)])
        self.assertEqual(turns(Book(free_web("ab"), tuple(list(TWO.words))), 3), turns(TWO, 3))


if __name__ == "__main__":
    unittest.main()
