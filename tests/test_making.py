"""Webs made of letters, texts and other webs: 2.1, 2.2, 2.5."""

import copy
import random
import unittest

from neverjoin.errors import NoLetters, NoNames, NoText, NoTexts, TooMany
from neverjoin.making import free_web, left_out, renamed, ring_web, rows_web, turned
from neverjoin.stretches import is_ring, least_ring, many_stretches
from neverjoin.webs import Web, letters
from plain import F, G, R, WEBS, all_texts, is_text, leads_everywhere, odd_things, walk_texts

ALPHABET = "abcdefghijklmnopqrstuvwxyz"


def is_right(web):
    """Whether a web is one but for its sizes."""
    if type(web.points) is not int or type(web.arrows) is not tuple or list(web.arrows) != sorted(set(web.arrows)):
        return False
    if not all(type(arrow) is tuple and len(arrow) == 3 and arrow[1] in ALPHABET for arrow in web.arrows):
        return False
    return web.arrows != () and leads_everywhere(web.points, web.arrows)


def endless_parts(alphabet, texts, length):
    """The set of the texts of a length in the endless texts in which none of some texts comes.

    What can be prolonged on both sides by as many letters as there are endings, and one more, goes on for ever.
    """
    reach = max([len(text) for text in texts], default=1)
    free = lambda text: not any(one in text for one in texts)

    def lasting(starts, prolong):
        kept = set(starts)
        while True:
            rest = {text for text in kept if any(prolong(text, letter) in kept for letter in alphabet)}
            if rest == kept:
                return kept
            kept = rest

    blocks = [text for text in all_texts(alphabet, reach) if free(text)]
    forward = lasting(blocks, lambda text, letter: (text + letter)[1:])
    backward = lasting(blocks, lambda text, letter: (letter + text)[:-1])
    size = length + 2 * reach
    level = sorted(backward)
    for _ in range(size - reach):
        level = [text + letter for text in level for letter in alphabet if free((text + letter)[-reach:])]
    return {text[reach:reach + length] for text in level if text[-reach:] in forward}


def is_one_web(alphabet, texts):
    """Whether there are such endless texts, and each two parts of them come, one behind the other, in one."""
    reach = max([len(text) for text in texts], default=1)
    parts = sorted(endless_parts(alphabet, texts, reach))
    allowed = endless_parts(alphabet, texts, reach + 1)
    if not parts:
        return False
    for start in parts:
        found = {start}
        waiting = [start]
        while waiting:
            text = waiting.pop()
            for letter in alphabet:
                if text + letter in allowed and (text + letter)[1:] not in found:
                    found.add((text + letter)[1:])
                    waiting.append((text + letter)[1:])
        if found != set(parts):
            return False
    return True


def row_parts(texts, length):
    """The set of the texts of a length in what is put together of some texts."""
    found = set()
    waiting = {(text[place:], place) for text in texts for place in range(len(text))}
    grown = {begin for begin, _ in waiting}
    while grown:
        found |= {text[:length] for text in grown if len(text) >= length}
        grown = {text + other for text in grown if len(text) < length for other in texts}
    return found


class FreeAndRound(unittest.TestCase):
    def test_free_web(self):
        self.assertEqual(free_web("ab"), Web(1, ((0, "a", 0), (0, "b", 0))))
        self.assertEqual(free_web("z"), Web(1, ((0, "z", 0),)))
        self.assertEqual(letters(free_web("acxyz")), "acxyz")
        self.assertEqual(letters(free_web(ALPHABET[:12])), ALPHABET[:12])
        for size in range(4):
            self.assertEqual(sorted(walk_texts(free_web("abd"), size)), all_texts("abd", size))

    def test_free_web_of_what(self):
        for thing in odd_things() + [ALPHABET[:13], ALPHABET, "aa", "ba", "aab", "abca", "", "aB", "a1", ["a"], ("a", "b")]:
            if thing == "a" or thing == "ab":
                continue
            with self.assertRaises(NoLetters):
                free_web(thing)

    def test_ring_web(self):
        self.assertEqual(ring_web("aab"), Web(3, ((0, "a", 1), (1, "a", 2), (2, "b", 0))))
        self.assertEqual(ring_web("a"), Web(1, ((0, "a", 0),)))
        self.assertEqual(ring_web("abcdefghijkl").points, 12)
        self.assertEqual(least_ring(ring_web("bca")), "abc")

    def test_ring_web_of_what(self):
        for thing in odd_things() + ["a" * 13, "", "aB", ["a"], "a b"]:
            if is_text(thing) and 1 <= len(thing) <= 12:
                self.assertEqual(ring_web(thing).points, len(thing))
                continue
            with self.assertRaises(NoText):
                ring_web(thing)


class Others(unittest.TestCase):
    def test_turned(self):
        for web in WEBS:
            back = turned(web)
            self.assertTrue(is_right(back))
            self.assertEqual(turned(back), web)
            self.assertEqual(back.points, web.points)
            self.assertEqual(set(back.arrows), {(end, letter, begin) for begin, letter, end in web.arrows})
            for size in range(4):
                self.assertEqual(walk_texts(back, size), {text[::-1] for text in walk_texts(web, size)})

    def test_renamed(self):
        self.assertEqual(renamed(G, {"a": "b", "b": "a"}), Web(2, ((0, "a", 1), (0, "b", 0), (1, "b", 0))))
        self.assertEqual(renamed(R, {"b": "z", "a": "b"}), ring_web("bbz"))
        for web in WEBS:
            names = dict(zip(letters(web), "zxy"))
            other = renamed(web, names)
            self.assertTrue(is_right(other))
            for size in range(4):
                known = {"".join(names[sign] for sign in text) for text in walk_texts(web, size)}
                self.assertEqual(walk_texts(other, size), known)

    def test_renamed_by_what(self):
        wrong = [
            {"a": "b"}, {"a": "b", "b": "b"}, {"a": "b", "b": "a", "c": "c"}, {"a": "b", "c": "a"}, {"a": "b", "b": "aa"},
            {"a": "b", "b": ""}, {"a": "b", "b": "A"}, {"a": "b", "b": 0}, {"a": "b", "b": ["a"]}, {"a": "b", 0: "a"},
            {"a": "b", b"b": "a"}, {"a": "b", None: "a"}, {"a": "b", ("b",): "a"}, {"a": "b", "b": b"a"}, {},
            [("a", "b"), ("b", "a")], (("a", "b"), ("b", "a")), {"a": "b", "b": {}}, {"a": "b", "b": None},
            {"a": "b", "b": F}, {"a": "b", "b": True}, "ab",
        ]
        for thing in odd_things() + wrong:
            before = copy.copy(thing) if type(thing) is dict else None
            with self.assertRaises(NoNames):
                renamed(F, thing)
            if type(thing) is dict:
                self.assertEqual(thing, before)
        for thing in odd_things():
            for names in ({"a": "b", "b": thing}, {"a": thing, "b": "c"}):
                if type(thing) is str and len(thing) == 1 and thing in ALPHABET:
                    continue
                with self.assertRaises(NoNames):
                    renamed(F, names)

    def test_names_stay_as_they_were(self):
        names = {"a": "y", "b": "x"}
        self.assertEqual(letters(renamed(F, names)), "xy")
        self.assertEqual(names, {"a": "y", "b": "x"})


class LeftOut(unittest.TestCase):
    def check(self, alphabet, texts, length=5):
        web = left_out(alphabet, texts)
        if not is_one_web(alphabet, texts):
            self.assertIsNone(web, (alphabet, texts))
            return
        self.assertTrue(is_right(web), (alphabet, texts))
        for size in range(length + 1):
            self.assertEqual(walk_texts(web, size), endless_parts(alphabet, texts, size), (alphabet, texts))

    def test_ordinary_ones(self):
        self.check("ab", ("bb",))
        self.check("abc", ["aa", "bcb", "cc"])
        self.check("ab", ("aab", "bbb"))
        self.check("ab", ("abab", "bb"))
        self.check("ab", ("aaaaaa", "bbbbbb"))
        self.check("ab", ("bb", "bb", "bb"))
        self.check("ab", ("b", "bab", "bb"))
        self.check("abc", ("c", "ab"))
        self.check("ab", ("aba", "ab", "b"))

    def test_lots_made_from_seeds(self):
        for seed in range(300):
            source = random.Random(seed)
            alphabet = "abc"[:source.randint(1, 3)]
            most = source.randint(1, 4)
            texts = [
                "".join(alphabet[source.randrange(len(alphabet))] for _ in range(source.randint(1, most)))
                for _ in range(source.randint(0, 4))
            ]
            self.check(alphabet, texts if seed % 2 else tuple(texts), 4)

    def test_no_texts(self):
        self.check("ab", ())
        self.check("c", [])
        self.assertEqual(many_stretches(left_out("abcdefghijkl", ()), 3), 12 ** 3)

    def test_no_endless_text_is_left(self):
        for alphabet, texts in (("ab", ("a", "b")), ("a", ("a",)), ("a", ("aaaaaa",)), ("ab", ("aa", "bb", "ab")), ("ab", ("aa", "b"))):
            self.assertIsNone(left_out(alphabet, texts))

    def test_several_parts_are_left(self):
        self.assertIsNone(left_out("ab", ("ab", "ba")))
        self.assertIsNone(left_out("ab", ("ba",)))
        self.assertIsNone(left_out("abc", ("ac", "bc", "ca", "cb")))
        self.assertIsNone(left_out("ab", ("aab", "bba")))

    def test_letters_that_are_left_out(self):
        self.assertEqual(letters(left_out("abc", ("b",))), "ac")
        self.assertEqual(letters(left_out("ab", ("bb", "bab", "baa"))), "a")
        web = left_out("ab", ("aa", "bb"))
        self.assertEqual(walk_texts(web, 4), {"abab", "baba"})

    def test_wide_webs(self):
        texts = ["abcabc", "cabbaa", "aaabbb", "bbbccc", "cccaaa", "acacac"]
        web = left_out("abc", texts)
        self.assertGreater(web.points, 12)
        self.assertTrue(is_right(web))
        for size in range(7):
            self.assertEqual(walk_texts(web, size), {text for text in all_texts("abc", size) if not any(one in text for one in texts)})
        self.assertEqual(many_stretches(web, 6), 3 ** 6 - 6)
        self.assertTrue(is_ring(web, "ab"))
        self.assertFalse(is_ring(web, "ac"))
        self.assertEqual(turned(turned(web)), web)

    def test_which_letters(self):
        for thing in odd_things() + [ALPHABET[:13], "ba", "aa", ""]:
            if thing == "a" or thing == "ab":
                continue
            with self.assertRaises(NoLetters):
                left_out(thing, ())
            with self.assertRaises(NoLetters):
                left_out(thing, None)

    def test_which_texts(self):
        for thing in odd_things():
            if (type(thing) is list or type(thing) is tuple) and len(thing) <= 20:
                if all(type(item) is str and item in ("a", "b", "ab") for item in thing):
                    continue
            with self.assertRaises(NoTexts):
                left_out("ab", thing)
        for thing in odd_things():
            if type(thing) is str and 1 <= len(thing) <= 6 and set(thing) <= set("ab"):
                continue
            with self.assertRaises(NoTexts):
                left_out("ab", ["aa", thing])
        for texts in (["aa"] * 21, ("aaaaaaa",), ("",), ("aa", "c"), {"aa": 1}, "ab", ("a", "b", "")):
            with self.assertRaises(NoTexts):
                left_out("ab", texts)
        self.assertEqual(letters(left_out("ab", ["bbbbbb"] * 20)), "ab")

    def test_too_many_endings(self):
        twelve = ALPHABET[:12]
        for alphabet, texts in ((twelve, ("abcda",)), (twelve, ("a", "abcdef")), ("abcde", ("edcbae",)), ("abcdefg", ["abcde"])):
            with self.assertRaises(TooMany) as caught:
                left_out(alphabet, texts)
            self.assertEqual(caught.exception.most, 2000)
        with self.assertRaises(NoTexts):
            left_out(twelve, ("abcda", "m"))
        self.assertEqual(many_stretches(left_out(twelve, ("abcd",)), 4), 12 ** 4 - 1)
        self.assertEqual(many_stretches(left_out("abcd", ("abcdab",)), 6), 4 ** 6 - 1)
        self.assertEqual(many_stretches(left_out("abcdef", ("abcde",)), 5), 6 ** 5 - 1)


class Rows(unittest.TestCase):
    def test_against_putting_together(self):
        lots = [("a",), ("ab",), ("ab", "ba"), ["a", "ab", "abb"], ("aab", "b"), ("abc", "ca", "bb"), ("aa", "aaa"), ["ab", "ab"]]
        for seed in range(60):
            source = random.Random(seed)
            lots.append(["".join(source.choice("ab") for _ in range(source.randint(1, 4))) for _ in range(source.randint(1, 4))])
        for texts in lots:
            web = rows_web(texts)
            self.assertTrue(is_right(web))
            for size in range(7):
                self.assertEqual(walk_texts(web, size), row_parts(texts, size), texts)

    def test_bounds(self):
        self.assertEqual(least_ring(rows_web(["ab" * 10])), "ab")
        self.assertEqual(walk_texts(rows_web(["a" * 20, "b"]), 22) - row_parts(["a" * 20, "b"], 22), set())
        twenty = ["b" * size + "a" * (20 - size) for size in range(20)]
        web = rows_web(twenty)
        self.assertTrue(is_right(web))
        self.assertGreater(web.points, 12)
        self.assertEqual(walk_texts(web, 3), row_parts(twenty, 3))
        for texts in ([], (), ["a"] * 21, ("a" * 21,), ("a", ""), ("a", "A"), {"a": "a"}, "ab", ("a", None), ("a", ["a"])):
            with self.assertRaises(NoTexts):
                rows_web(texts)

    def test_of_what(self):
        for thing in odd_things():
            if (type(thing) is list or type(thing) is tuple) and 1 <= len(thing) <= 20:
                if all(is_text(item) and 1 <= len(item) <= 20 for item in thing):
                    self.assertTrue(is_right(rows_web(thing)))
                    continue
            with self.assertRaises(NoTexts):
                rows_web(thing)
            if not (is_text(thing) and 1 <= len(thing) <= 20):
                with self.assertRaises(NoTexts):
                    rows_web(("a", thing))

    def test_lists_and_tuples_alike_and_kept(self):
        texts = ["ab", "ba"]
        self.assertEqual(rows_web(texts), rows_web(tuple(texts)))
        self.assertEqual(left_out("ab", ["bb"]), left_out("ab", ("bb",)))
        self.assertEqual(texts, ["ab", "ba"])

    def test_wide_webs_are_webs_for_every_function(self):
        web = rows_web(("a" * 20, "b" * 20, "ab" * 10, "abb" * 6))
        self.assertGreater(len(web.arrows), 60)
        self.assertTrue(is_right(turned(web)))
        self.assertEqual(renamed(web, {"a": "b", "b": "a"}).points, web.points)
        self.assertEqual(many_stretches(web, 5), len(walk_texts(web, 5)))
        self.assertEqual(letters(web), "ab")


if __name__ == "__main__":
    unittest.main()
