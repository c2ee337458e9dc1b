"""Webs and what stands about their stretches: 1.1 to 1.3, 0.3, 0.4."""

import unittest
from itertools import combinations, product

from neverjoin.books import Book
from neverjoin.errors import BadWeb, NoStretch
from neverjoin.making import ring_web, rows_web
from neverjoin.webs import Web, after, before, ends, is_stretch, letters, pairs, surplus
from plain import F, G, R, WEBS, all_texts, is_text, leads_everywhere, odd_things, stretches_up_to, walk_ends, walk_texts

RING = ((0, "a", 1), (1, "b", 0))


def part_of(points, arrows):
    try:
        Web(points, arrows)
    except BadWeb as error:
        return error.part
    return None


def long_ring(points):
    return tuple((point, "a", (point + 1) % points) for point in range(points))


def many_arrows(many):
    every = [(begin, letter, end) for begin, letter, end in product(range(2), "abcdefghijklmnopqrstuvwxyz", range(2))]
    return tuple(sorted(every)[-many:])


class Webs(unittest.TestCase):
    def test_attributes(self):
        web = Web(2, RING)
        self.assertEqual((web.points, web.arrows), (2, RING))
        self.assertIs(type(web.points), int)
        self.assertIs(type(web.arrows), tuple)

    def test_sizes(self):
        self.assertEqual(Web(12, long_ring(12)).points, 12)
        self.assertEqual(part_of(13, long_ring(13)), "points")
        self.assertEqual(part_of(0, ()), "points")
        self.assertEqual(part_of(-1, RING), "points")
        self.assertEqual(len(Web(2, many_arrows(60)).arrows), 60)
        self.assertEqual(part_of(2, many_arrows(61)), "arrows")
        self.assertEqual(part_of(1, ()), "arrows")
        self.assertIsNone(part_of(1, ((0, "z", 0),)))

    def test_points_are_judged_first(self):
        for thing in odd_things() + [0, 13, 10 ** 39]:
            if type(thing) is int and 1 <= thing <= 12:
                continue
            self.assertEqual(part_of(thing, RING), "points")
            self.assertEqual(part_of(thing, None), "points")

    def test_arrows_of_any_kind(self):
        for thing in odd_things():
            if thing == ((0, "a", 0),):
                continue
            self.assertEqual(part_of(1, thing), "arrows")
            self.assertEqual(part_of(2, RING + (thing,)), "arrows")
            if thing != 0 or type(thing) is not int:
                self.assertEqual(part_of(1, ((thing, "a", 0),)), "arrows")
                self.assertEqual(part_of(1, ((0, "a", thing),)), "arrows")
            if thing != "a":
                self.assertEqual(part_of(1, ((0, thing, 0),)), "arrows")

    def test_arrows_of_wrong_form(self):
        wrong = [
            list(RING), tuple(map(list, RING)), RING[::-1], RING + RING[1:], ((0, "a", 1), (1, "b", 2)),
            ((0, "a", 1), (1, "b", -1)), ((0, "aa", 1), (1, "b", 0)), ((0, "", 1), (1, "b", 0)),
            ((0, "A", 1), (1, "b", 0)), ((0, "a", 1, 0), (1, "b", 0)), ((0, "a"), (1, "b", 0)),
            ((False, "a", 1), (1, "b", 0)), ((0, "a", True), (1, "b", 0)), ((0, b"a", 1), (1, "b", 0)), (),
            ((0, "a", 1), None), ((0, "{", 1), (1, "b", 0)), ((0, "`", 1), (1, "b", 0)),
        ]
        for arrows in wrong:
            self.assertEqual(part_of(2, arrows), "arrows")

    def test_apart(self):
        self.assertEqual(part_of(3, RING), "apart")
        self.assertEqual(part_of(2, ((0, "a", 1),)), "apart")
        self.assertEqual(part_of(2, ((0, "a", 0), (0, "a", 1), (1, "a", 1))), "apart")
        self.assertEqual(part_of(2, ((0, "a", 0), (1, "a", 0), (1, "a", 1))), "apart")
        self.assertEqual(part_of(2, ((0, "a", 0), (1, "a", 1))), "apart")
        self.assertEqual(part_of(4, ((0, "a", 1), (1, "a", 0), (2, "a", 3), (3, "a", 2))), "apart")
        self.assertEqual(part_of(12, long_ring(12)[:-1]), "apart")
        self.assertEqual(part_of(2, ((0, "a", 0),)), "apart")

    def test_apart_against_a_plain_search(self):
        every = list(product(range(3), "a", range(3)))
        for many in range(1, 6):
            for arrows in combinations(every, many):
                self.assertEqual(part_of(3, arrows), None if leads_everywhere(3, arrows) else "apart")

    def test_equal_just_if_both_are(self):
        self.assertEqual(Web(2, RING), Web(2, RING))
        self.assertTrue(Web(2, RING) == Web(2, tuple(list(RING))))
        self.assertFalse(Web(2, RING) != Web(2, RING))
        self.assertNotEqual(Web(2, RING), Web(2, ((0, "a", 1), (1, "c", 0))))
        self.assertNotEqual(Web(1, ((0, "a", 0),)), ring_web("aa"))
        self.assertNotEqual(Web(2, RING), Web(2, RING + ((1, "c", 0),)))
        for thing in odd_things() + [(2, RING), Book(R, ()), RING]:
            if type(thing) is not Web:
                self.assertFalse(Web(2, RING) == thing)
                self.assertTrue(Web(2, RING) != thing)
                self.assertFalse(thing == Web(2, RING))

    def test_answers_are_alike_for_equal_webs(self):
        for web in WEBS[:20]:
            if web.points <= 12 and len(web.arrows) <= 60:
                other = Web(web.points, tuple(list(web.arrows)))
                for text in stretches_up_to(web, 3):
                    for function in (ends, after, before, pairs, surplus, is_stretch):
                        self.assertEqual(function(web, text), function(other, text))
                self.assertEqual(letters(web), letters(other))

    def test_letters(self):
        self.assertEqual(letters(F), "ab")
        self.assertEqual(letters(R), "ab")
        self.assertEqual(letters(ring_web("cab")), "abc")
        self.assertEqual(letters(ring_web("zzz")), "z")
        for web in WEBS:
            self.assertEqual(letters(web), "".join(sorted({letter for _, letter, _ in web.arrows})))

    def test_stretches_and_ends(self):
        for web in WEBS:
            for size in range(5):
                known = walk_texts(web, size)
                for text in all_texts("abc", size):
                    self.assertIs(is_stretch(web, text), text in known)
                    if text in known:
                        self.assertEqual(ends(web, text), tuple(sorted(walk_ends(web, text))))
                    else:
                        with self.assertRaises(NoStretch):
                            ends(web, text)

    def test_the_empty_text(self):
        for web in WEBS:
            self.assertIs(is_stretch(web, ""), True)
            self.assertEqual(ends(web, ""), tuple(range(web.points)))
            self.assertEqual(after(web, ""), letters(web))
            self.assertEqual(before(web, ""), letters(web))
            self.assertEqual(pairs(web, ""), sorted(walk_texts(web, 2)))

    def test_neighbours(self):
        for web in WEBS:
            for text in stretches_up_to(web, 4):
                longer = walk_texts(web, len(text) + 1)
                longest = walk_texts(web, len(text) + 2)
                behind = "".join(sorted({one[-1] for one in longer if one[:-1] == text}))
                ahead = "".join(sorted({one[0] for one in longer if one[1:] == text}))
                both = sorted(one[0] + one[-1] for one in longest if one[1:-1] == text)
                self.assertEqual(after(web, text), behind)
                self.assertEqual(before(web, text), ahead)
                self.assertEqual(pairs(web, text), both)
                self.assertEqual(surplus(web, text), len(both) - len(behind) - len(ahead) + 1)

    def test_surplus_below_nothing(self):
        self.assertEqual(surplus(rows_web(("acb", "bca")), "c"), -1)
        self.assertEqual(surplus(R, "ab"), 0)
        self.assertEqual(surplus(F, "ab"), 1)

    def test_long_texts(self):
        self.assertTrue(is_stretch(F, "ab" * 200))
        self.assertEqual(ends(ring_web("aab"), "aab" * 133), (0,))
        self.assertEqual(ends(F, "ab" * 5000), (0,))
        self.assertEqual(pairs(R, "aab" * 133), ["ba"])

    def test_what_is_no_stretch(self):
        for web in (F, G, R):
            for thing in odd_things() + ["bbb", "c", "aB", "a-", "ba" * 100 + "c"]:
                right = is_text(thing) and set(thing) <= set("ab") and bool(walk_ends(web, thing))
                self.assertIs(is_stretch(web, thing), right)
                if right:
                    continue
                for function in (ends, after, before, pairs, surplus):
                    with self.assertRaises(NoStretch):
                        function(web, thing)

    def test_lists_are_new_and_arguments_stay(self):
        web = Web(2, RING)
        first = pairs(web, "")
        first.append("zz")
        self.assertEqual(pairs(web, ""), ["ab", "ba"])
        self.assertIs(web.arrows[0], RING[0])
        self.assertEqual(web, Web(2, ((0, "a", 1), (1, "b", 0))))

    def test_webs_that_functions_return_have_any_size(self):
        web = rows_web(["a" * 20, "b" * 20, "ab" * 10, "ba" * 10])
        self.assertGreater(web.points, 12)
        self.assertGreater(len(web.arrows), 60)
        self.assertEqual(ends(web, ""), tuple(range(web.points)))
        self.assertEqual(ends(web, "ab"), tuple(sorted(walk_ends(web, "ab"))))
        self.assertEqual(pairs(web, "ab"), sorted(one[0] + one[-1] for one in walk_texts(web, 4) if one[1:-1] == "ab"))
        self.assertTrue(is_stretch(web, "a" * 60))
        with self.assertRaises(BadWeb) as caught:
            Web(web.points, web.arrows)
        self.assertEqual(caught.exception.part, "points")


if __name__ == "__main__":
    unittest.main()
