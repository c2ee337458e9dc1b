"""What the tests list for themselves, without the program's own ways: walks, stretches, readings, odd things."""

import random
from itertools import product

from neverjoin.books import Book
from neverjoin.errors import BadWeb, NoStretch
from neverjoin.making import free_web, left_out, ring_web, rows_web
from neverjoin.webs import Web

F = free_web("ab")
G = Web(2, ((0, "a", 0), (0, "b", 1), (1, "a", 0)))
R = ring_web("aab")
# An even number of letters b between two letters a; and several arrows of one letter from a point.
EVEN = Web(2, ((0, "a", 0), (0, "b", 1), (1, "b", 0)))
FORK = Web(3, ((0, "a", 0), (0, "a", 1), (0, "a", 2), (1, "b", 2), (2, "a", 1), (2, "b", 0)))
TWO = Book(F, ("aa", "ab", "ba", "bb"))
THREE = Book(F, ("aaa", "aaba", "aabb", "ab", "baa", "baba", "babb", "bba", "bbb"))


def leads_everywhere(points, arrows):
    """Whether arrows lead from each point to each one, by going along them over and over."""
    for start in range(points):
        found = {start}
        for _ in range(points):
            found |= {end for begin, _, end in arrows if begin in found}
        if len(found) < points:
            return False
    return True


def random_web(seed, most_points=4, signs="ab", most_arrows=9):
    """A web made from a seed, the same for each run."""
    source = random.Random(seed)
    while True:
        points = source.randint(1, most_points)
        arrows = {
            (source.randrange(points), signs[source.randrange(len(signs))], source.randrange(points))
            for _ in range(source.randint(1, most_arrows))
        }
        if leads_everywhere(points, arrows):
            return Web(points, tuple(sorted(arrows)))


WEBS = (
    [F, G, R, EVEN, FORK, free_web("a"), free_web("abc"), ring_web("a"), ring_web("aa"), ring_web("abab"), ring_web("abc")]
    + [random_web(seed) for seed in range(40)]
    + [random_web(seed, 5, "abc", 12) for seed in range(40, 60)]
    + [rows_web(("ab", "ba", "bbb")), rows_web(["a", "ab", "abb"]), left_out("abc", ("aa", "bcb", "cc"))]
)


def walk_texts(web, length):
    """The set of the texts of all walks of a length, each walk gone by itself."""
    walks = [("", point) for point in range(web.points)]
    for _ in range(length):
        walks = {(text + letter, end) for text, point in walks for begin, letter, end in web.arrows if begin == point}
    return {text for text, _ in walks}


def walk_ends(web, text):
    """The set of the points to which walks with a text lead."""
    found = set(range(web.points))
    for sign in text:
        found = {end for begin, letter, end in web.arrows if begin in found and letter == sign}
    return found


def stretches_up_to(web, length):
    """All stretches of up to so many letters, shorter ones first, those of one length ascending."""
    return [text for size in range(length + 1) for text in sorted(walk_texts(web, size))]


def all_texts(letters, length):
    """The ascending list of all texts of a length over letters."""
    return ["".join(signs) for signs in product(letters, repeat=length)]


def rows_of_cuts(words, text):
    """All readings of a text by the definition: every row of cuts is tried, so the text has to be short."""
    places = range(len(text) + 1)
    comes = {(begin, end) for begin in places for end in places if text[begin:end] in words}
    found = []
    for chosen in product((False, True), repeat=len(text) + 1):
        cuts = tuple(place for place in places if chosen[place])
        if not cuts or any(pair not in comes for pair in zip(cuts, cuts[1:])):
            continue
        if any(end == cuts[0] or begin == cuts[-1] for begin, end in comes):
            continue
        found.append(cuts)
    return sorted(found)


def split_up(words, text):
    """All tuples of words that put together are a text."""
    if text == "":
        return [()]
    return [(word,) + rest for word in words if text.startswith(word) for rest in split_up(words, text[len(word):])]


def random_book(seed, web, most_words=6, longest=4):
    """A book of a web made from a seed: stretches taken in any order as long as none begins or ends another one."""
    source = random.Random(seed)
    texts = [text for text in stretches_up_to(web, longest) if text]
    words = []
    for _ in range(source.randint(0, most_words) * 3):
        text = texts[source.randrange(len(texts))]
        if not any(one.startswith(text) or one.endswith(text) or text.startswith(one) or text.endswith(one) for one in words):
            words.append(text)
    return Book(web, tuple(sorted(words)))


BOOKS = (
    [TWO, THREE, Book(F, ()), Book(F, ("a",)), Book(R, ("ab",)), Book(G, ("aa", "ba")), Book(G, ("aab", "ba"))]
    + [Book(EVEN, ("abba", "bb")), Book(FORK, ("ab", "ba", "bb")), Book(ring_web("ab"), ("ab",))]
    + [random_book(seed, WEBS[seed % len(WEBS)]) for seed in range(100)]
)


def nested(depth, make):
    """A thing in things, so deep."""
    thing = "a"
    for _ in range(depth):
        thing = make(thing)
    return thing


def some_function(thing):
    return thing


def odd_things():
    """Things of every built-in kind that a judged argument may be, made anew."""
    return [
        None, True, False, 0, 1, 2, 13, -1, 10 ** 39, -(10 ** 39), "", "a", "ab", "A", "a b", "a\n", "~", "0", "a" * 400,
        " ", "\t", b"", b"a", b"ab", bytearray(b"a"), memoryview(b"ab"), [], ["a"], ["ab", "b"], [0], [True], (), ("a",),
        (0,), (True,), (None,), ((),), ("a", 0), [[]], {}, {"a": "a"}, {"a": ["a"]}, {0: 1}, {None: ()}, {("a",): "b"},
        {b"a": "a"}, range(0), range(3), slice(0, 1), Ellipsis, NotImplemented, int, str, some_function, len,
        iter([1]), iter("a"), (sign for sign in "ab"), zip("a", "b"), enumerate("a"), {"a": 1}.items(), {"a": 1}.keys(),
        object(), ValueError("a"), NoStretch(), BadWeb("points"), F, R, TWO, Web, NoStretch,
        nested(40, lambda thing: [thing]), nested(40, lambda thing: (thing,)), nested(40, lambda thing: {"a": thing}),
        [0] * 9999, ("a",) * 9999, ["a"] * 9999, (F,), [TWO], {"a": F}, (0, "a", 0), ((0, "a", 0),), [(0, "a", 0)],
    ]


def is_text(thing):
    return type(thing) is str and all(sign in "abcdefghijklmnopqrstuvwxyz" for sign in thing)


def is_plain_integer(thing):
    return type(thing) is int
