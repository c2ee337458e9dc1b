"""Stretches by length and number, and rings: 1.4 to 1.6."""

import unittest

from neverjoin.errors import NoNumber, NoStretch, TooLong, TooMany
from neverjoin.making import free_web, ring_web, rows_web, turned
from neverjoin.stretches import is_ring, least_ring, many_stretches, number_of, rings, round_rings, stretch_at, stretches
from neverjoin.webs import Web
from plain import F, G, R, WEBS, all_texts, is_plain_integer, is_text, odd_things, random_web, walk_ends, walk_texts

# Just 2000 and 2001 stretches of 6 letters, and just 2000 of 3 letters.
JUST = Web(3, ((0, "a", 2), (0, "b", 0), (0, "c", 2), (0, "d", 0), (1, "b", 0), (2, "a", 0), (2, "b", 0), (2, "d", 1)))
MORE = Web(3, (
    (0, "a", 0), (0, "a", 2), (0, "b", 1), (0, "c", 1), (1, "a", 0), (1, "c", 2), (1, "d", 1),
    (2, "b", 0), (2, "b", 1), (2, "d", 0), (2, "d", 1),
))
SHUTTLE = Web(2, tuple(
    [(0, letter, 1) for letter in "abcdefghij"] + [(1, letter, 0) for letter in "klmnopqrst"]
))


def plain_is_ring(web, text):
    """Whether a text can be gone along more often than there are points."""
    return text != "" and bool(walk_ends(web, text * (web.points + 1)))


def is_power(text):
    return any(text == text[:size] * (len(text) // size) for size in range(1, len(text)))


class Stretches(unittest.TestCase):
    def test_against_walks(self):
        for web in WEBS:
            for length in range(6):
                known = sorted(walk_texts(web, length))
                self.assertEqual(many_stretches(web, length), len(known))
                self.assertEqual(stretches(web, length), known)
                self.assertEqual([stretch_at(web, length, number) for number in range(len(known))], known)
                self.assertEqual([number_of(web, text) for text in known], list(range(len(known))))
                for number in (-1, len(known)):
                    with self.assertRaises(NoNumber):
                        stretch_at(web, length, number)

    def test_example(self):
        self.assertEqual([many_stretches(G, length) for length in range(6)], [1, 2, 3, 5, 8, 13])

    def test_bounds_of_the_length(self):
        self.assertEqual((many_stretches(F, 0), stretches(F, 0), stretch_at(F, 0, 0)), (1, [""], ""))
        self.assertEqual(many_stretches(F, 200), 2 ** 200)
        self.assertEqual(many_stretches(free_web("abcdefghijkl"), 200), 12 ** 200)
        self.assertEqual(stretch_at(F, 200, 1), "a" * 199 + "b")
        self.assertEqual(stretch_at(F, 200, 2 ** 200 - 1), "b" * 200)
        self.assertEqual(stretches(R, 200), sorted(walk_texts(R, 200)))
        self.assertEqual(number_of(F, "b" + "a" * 199), 2 ** 199)
        for length in [-1, 201, 10 ** 39] + [thing for thing in odd_things() if not is_plain_integer(thing)]:
            for call in (lambda: many_stretches(F, length), lambda: stretches(F, length), lambda: stretch_at(F, length, 0)):
                with self.assertRaises(NoNumber):
                    call()

    def test_just_as_many_as_allowed(self):
        self.assertEqual(len(walk_texts(JUST, 6)), 2000)
        self.assertEqual(stretches(JUST, 6), sorted(walk_texts(JUST, 6)))
        self.assertEqual(len(stretches(SHUTTLE, 3)), 2000)
        self.assertEqual(len(walk_texts(MORE, 6)), 2001)
        for web, length in ((MORE, 6), (SHUTTLE, 4), (F, 11), (F, 200), (free_web("abcdefghijkl"), 4)):
            with self.assertRaises(TooMany) as caught:
                stretches(web, length)
            self.assertEqual(caught.exception.most, 2000)
        self.assertEqual(len(stretches(F, 10)), 1024)

    def test_numbers(self):
        for thing in [-1, 8, 10 ** 39] + [thing for thing in odd_things() if not is_plain_integer(thing)]:
            with self.assertRaises(NoNumber):
                stretch_at(F, 3, thing)
        self.assertEqual(stretch_at(F, 3, 7), "bbb")

    def test_number_of_what(self):
        for thing in odd_things() + ["c" * 300, "bb"]:
            if not is_text(thing) or not walk_ends(G, thing):
                with self.assertRaises(NoStretch):
                    number_of(G, thing)
        self.assertEqual(number_of(G, "a" * 200), 0)
        for text in ("a" * 201, "ab" * 200, "a" * 1000):
            with self.assertRaises(TooLong) as caught:
                number_of(G, text)
            self.assertEqual(caught.exception.most, 200)

    def test_there_and_back_for_long_ones(self):
        for web in WEBS[:30]:
            most = many_stretches(web, 120)
            for number in {0, most // 3, most // 2, most - 1}:
                text = stretch_at(web, 120, number)
                self.assertEqual((len(text), number_of(web, text)), (120, number))
                self.assertTrue(walk_ends(web, text))

    def test_lists_are_new(self):
        for function in (stretches, rings, round_rings):
            first = function(F, 2)
            first.append("zz")
            self.assertNotIn("zz", function(F, 2))


class Rings(unittest.TestCase):
    def test_against_going_round(self):
        for web in WEBS:
            for length in range(1, 6):
                known = [text for text in all_texts("abc", length) if plain_is_ring(web, text)]
                self.assertEqual(rings(web, length), known)
                for text in all_texts("abc", length):
                    self.assertIs(is_ring(web, text), text in known)
                round_ones = []
                for text in known:
                    turns = [text[place:] + text[:place] for place in range(length)]
                    if text == min(turns) and not is_power(text):
                        round_ones.append(text)
                self.assertEqual(round_rings(web, length), round_ones)

    def test_examples(self):
        self.assertEqual((is_ring(G, "ab"), is_ring(G, "b")), (True, False))
        self.assertEqual(round_rings(F, 4), ["aaab", "aabb", "abbb"])

    def test_rings_shorter_than_the_ways_round(self):
        self.assertEqual(rings(ring_web("aaaa"), 1), ["a"])
        self.assertEqual(rings(ring_web("abab"), 2), ["ab", "ba"])
        self.assertEqual(least_ring(ring_web("abab")), "ab")
        self.assertEqual(least_ring(ring_web("ababab")), "ab")
        self.assertEqual(least_ring(ring_web("b" * 12)), "b")
        self.assertFalse(is_ring(R, "a"))
        self.assertFalse(is_ring(R, "aa"))
        self.assertTrue(is_ring(R, "baabaa"))

    def test_what_is_no_ring(self):
        for web in (F, G, R):
            for thing in odd_things():
                self.assertIs(is_ring(web, thing), is_text(thing) and thing != "" and plain_is_ring(web, thing))
        self.assertIs(is_ring(F, ""), False)
        self.assertIs(is_ring(F, "ab" * 5000), True)

    def test_lengths(self):
        self.assertEqual(rings(R, 30), ["aab" * 10, "aba" * 10, "baa" * 10])
        self.assertEqual(round_rings(R, 30), [])
        self.assertEqual(round_rings(R, 3), ["aab"])
        self.assertEqual(rings(R, 1), [])
        self.assertEqual(rings(F, 1), ["a", "b"])
        for length in [0, -1, 31, 200] + [thing for thing in odd_things() if not is_plain_integer(thing)]:
            for function in (rings, round_rings):
                with self.assertRaises(NoNumber):
                    function(F, length)

    def test_more_stretches_than_allowed(self):
        self.assertEqual(rings(JUST, 6), [text for text in sorted(walk_texts(JUST, 6)) if plain_is_ring(JUST, text)])
        for function in (rings, round_rings):
            for web, length in ((MORE, 6), (F, 11), (F, 30), (SHUTTLE, 5)):
                with self.assertRaises(TooMany) as caught:
                    function(web, length)
                self.assertEqual(caught.exception.most, 2000)
            with self.assertRaises(NoNumber):
                function(F, 31)

    def test_least_ring(self):
        for web in WEBS + [turned(web) for web in WEBS] + [random_web(seed, 6, "ab", 8) for seed in range(100, 140)]:
            length = 1
            while not any(plain_is_ring(web, text) for text in walk_texts(web, length)):
                length += 1
            self.assertEqual(least_ring(web), min(text for text in walk_texts(web, length) if plain_is_ring(web, text)))

    def test_least_ring_of_wide_webs(self):
        self.assertEqual(least_ring(rows_web(["ba" * 9 + "bb"])), "abababababababababbb")
        ring = Web(12, tuple((point, letter, (point + 1) % 12) for point in range(12) for letter in ("abcd", "bcde")[point % 2]))
        self.assertEqual(least_ring(ring), "b")
        layers = "abcde fghij klmno pqrst uvwxy".split()
        web = Web(5, tuple(sorted((point, letter, (point + 1) % 5) for point in range(5) for letter in layers[point])))
        self.assertEqual(least_ring(web), "afkpu")


if __name__ == "__main__":
    unittest.main()
