"""What the tests list for themselves, without the program's own ways: walks, stretches, readings, odd things."""

import random
from itertools import product

from neverjoin.books import Book
from neverjoin.errors import BadWeb, JoinError, NoStretch
from neverjoin.making import free_web, left_out, ring_web, rows_web
from neverjoin.stretches import stretches
from neverjoin.webs import Web

F = free_web("ab")
G = Web(2, ((0, "a", 0), (0, "b", 1), (1, "a", 0)))
R = ring_web("aab")
# An even number of letters b between two letters a; and several arrows of one letter from a point.
EVEN = Web(2, ((0, "a", 0), (0, "b", 1), (1, "b", 0)))
FORK = Web(3, ((0, "a", 0), (0, "a", 1), (0, "a", 2), (1, "b", 2), (2, "a", 1), (2, "b", 0)))
TWO = Book(F, ("aa", "ab", "ba", "bb"))
THREE = Book(F, ("aaa", "aaba", "aabb", "ab", "baa", "baba", "babb", "bba", "bbb"))


def leads_everywhere(points, arrows):
    """Whether arrows lead from each point to each one, by going along them over and over."""
    for start in range(points):
        found = {start}
        for _ in range(points):
            found |= {end for begin, _, end in arrows if begin in found}
        if len(found) < points:
            return False
    return True


def random_web(seed, most_points=4, signs="ab", most_arrows=9):
    """A web made from a seed, the same for each run."""
    source = random.Random(seed)
    while True:
        points = source.randint(1, most_points)
        arrows = {
            (source.randrange(points), signs[source.randrange(len(signs))], source.randrange(points))
            for _ in range(source.randint(1, most_arrows))
        }
        if leads_everywhere(points, arrows):
            return Web(points, tuple(sorted(arrows)))


WEBS = (
    [F, G, R, EVEN, FORK, free_web("a"), free_web("abc"), ring_web("a"), ring_web("aa"), ring_web("abab"), ring_web("abc")]
    + [random_web(seed) for seed in range(40)]
    + [random_web(seed, 5, "abc", 12) for seed in range(40, 60)]
    + [rows_web(("ab", "ba", "bbb")), rows_web(["a", "ab", "abb"]), left_out("abc", ("aa", "bcb", "cc"))]
)


def walk_texts(web, length):
    """The set of the texts of all walks of a length, each walk gone by itself."""
    walks = [("", point) for point in range(web.points)]
    for _ in range(length):
        walks = {(text + letter, end) for text, point in walks for begin, letter, end in web.arrows if begin == point}
    return {text for text, _ in walks}


def walk_ends(web, text):
    """The set of the points to which walks with a text lead."""
    found = set(range(web.points))
    for sign in text:
        found = {end for begin, letter, end in web.arrows if begin in found and letter == sign}
    return found


def stretches_up_to(web, length):
    """All stretches of up to so many letters, shorter ones first, those of one length ascending."""
    return [text for size in range(length + 1) for text in sorted(walk_texts(web, size))]


def all_texts(letters, length):
    """The ascending list of all texts of a length over letters."""
    return ["".join(signs) for signs in product(letters, repeat=length)]


def rows_of_cuts(words, text):
    """All readings of a text by the definition: every row of cuts is tried, so the text has to be short."""
    places = range(len(text) + 1)
    comes = {(begin, end) for begin in places for end in places if text[begin:end] in words}
    found = []
    for chosen in product((False, True), repeat=len(text) + 1):
        cuts = tuple(place for place in places if chosen[place])
        if not cuts or any(pair not in comes for pair in zip(cuts, cuts[1:])):
            continue
        if any(end == cuts[0] or begin == cuts[-1] for begin, end in comes):
            continue
        found.append(cuts)
    return sorted(found)


def split_up(words, text):
    """All tuples of words that put together are a text."""
    if text == "":
        return [()]
    return [(word,) + rest for word in words if text.startswith(word) for rest in split_up(words, text[len(word):])]


def random_book(seed, web, most_words=6, longest=4):
    """A book of a web made from a seed: stretches taken in any order as long as none begins or ends another one."""
    source = random.Random(seed)
    texts = [text for text in stretches_up_to(web, longest) if text]
    words = []
    for _ in range(source.randint(0, most_words) * 3):
        text = texts[source.randrange(len(texts))]
        if not any(one.startswith(text) or one.endswith(text) or text.startswith(one) or text.endswith(one) for one in words):
            words.append(text)
    return Book(web, tuple(sorted(words)))


BOOKS = (
    [TWO, THREE, Book(F, ()), Book(F, ("a",)), Book(R, ("ab",)), Book(G, ("aa", "ba")), Book(G, ("aab", "ba"))]
    + [Book(EVEN, ("abba", "bb")), Book(FORK, ("ab", "ba", "bb")), Book(ring_web("ab"), ("ab",))]
    + [random_book(seed, WEBS[seed % len(WEBS)]) for seed in range(100)]
)


def nested(depth, make):
    """A thing in things, so deep."""
    thing = "a"
    for _ in range(depth):
        thing = make(thing)
    return thing


def some_function(thing):
    return thing


def odd_things():
    """Things of every built-in kind that a judged argument may be, made anew."""
    return [
        None, True, False, 0, 1, 2, 13, -1, 10 ** 39, -(10 ** 39), "", "a", "ab", "A", "a b", "a\n", "~", "0", "a" * 400,
        " ", "\t", b"", b"a", b"ab", bytearray(b"a"), memoryview(b"ab"), [], ["a"], ["ab", "b"], [0], [True], (), ("a",),
        (0,), (True,), (None,), ((),), ("a", 0), [[]], {}, {"a": "a"}, {"a": ["a"]}, {0: 1}, {None: ()}, {("a",): "b"},
        {b"a": "a"}, range(0), range(3), slice(0, 1), Ellipsis, NotImplemented, int, str, some_function, len,
        iter([1]), iter("a"), (sign for sign in "ab"), zip("a", "b"), enumerate("a"), {"a": 1}.items(), {"a": 1}.keys(),
        object(), ValueError("a"), NoStretch(), BadWeb("points"), F, R, TWO, Web, NoStretch,
        nested(40, lambda thing: [thing]), nested(40, lambda thing: (thing,)), nested(40, lambda thing: {"a": thing}),
        [0] * 9999, ("a",) * 9999, ["a"] * 9999, (F,), [TWO], {"a": F}, (0, "a", 0), ((0, "a", 0),), [(0, "a", 0)],
    ]


def error_of(function, *arguments):
    """The name of the error that a call raises and its field, None if it raises none."""
    try:
        function(*arguments)
    except JoinError as error:
        return " ".join([type(error).__name__] + [str(field) for field in vars(error).values()])
    return None


def is_text(thing):
    return type(thing) is str and all(sign in "abcdefghijklmnopqrstuvwxyz" for sign in thing)


def is_plain_integer(thing):
    return type(thing) is int


def clash_free(texts):
    """Whether none of some unlike texts begins or ends another one."""
    return not any(one != other and (other.startswith(one) or other.endswith(one)) for one in texts for other in texts)


def plain_ways(words, text):
    """The number of readings of a text by the first fact: its letters and 1, less the comings."""
    return len(text) + 1 - sum(text.startswith(word, at) for at in range(len(text)) for word in words)


def can_be_put(web, words, text):
    """Whether a text is addable, by the definition."""
    if text == "" or not walk_ends(web, text):
        return False
    return not any(one.startswith(text) or one.endswith(text) or text.startswith(one) or text.endswith(one) for one in words)


def plain_full(web, words):
    """The ways of a full book, None if it is not full: at each place a word has to begin and one to end."""
    if not words:
        return None
    size = max(len(word) for word in words)
    counts = set()
    for text in walk_texts(web, size) | walk_texts(web, size + 1):
        if not any(text.startswith(word) for word in words) or not any(text.endswith(word) for word in words):
            return None
        counts.add(plain_ways(words, text))
    (number,) = counts
    return number


def plain_made(web, lot, ways, longest=20):
    """The words of the full book with just these inner words, None if there is none.

    Readings are those by the lot, at most so many as the ways. A text a, u, b is a word just if it has one reading less
    than a, u and u, b have beyond u. If there are stretches with few readings without end, a ring is there; what is
    drawn here has far less than 200 of a length where there is none.
    """
    def few(text):
        return min(ways, plain_ways(lot, text))

    signs = sorted({letter for _, letter, _ in web.arrows})
    if any(plain_ways(lot, word) >= ways for word in lot):
        return None
    words = [sign for sign in signs if few(sign) == 1]
    level = [""] if ways > 1 else []
    for _ in range(longest):
        if not level:
            return tuple(sorted(words))
        if len(level) > 200:
            return None
        for text in level:
            for first in signs:
                for last in signs:
                    whole = first + text + last
                    if walk_ends(web, whole) and few(first + text) + few(text + last) - few(text) - few(whole) == 1:
                        words.append(whole)
        level = [text + sign for text in level for sign in signs if walk_ends(web, text + sign) and few(text + sign) < ways]
    return None


def inner_of(words):
    """The ascending tuple of the words that lie strictly within another one."""
    return tuple(sorted(word for word in words if any(word in other[1:-1] for other in words)))


def drawn_lot(source, web, most=4, longest=3):
    """A lot of a web made from a source of numbers."""
    texts = [text for text in stretches_up_to(web, longest) if text]
    lot = []
    for _ in range(source.randint(0, most)):
        text = source.choice(texts)
        if text not in lot and clash_free(lot + [text]):
            lot.append(text)
    return tuple(sorted(lot))


def drawn_full():
    """Full books as triples (book, ways, lot): of each web a few, with 1 to 4 ways."""
    found = []
    known = []
    for number, web in enumerate(WEBS):
        # Of webs with the same stretches two are enough.
        if known.count(walk_texts(web, 5)) == 2:
            continue
        known.append(walk_texts(web, 5))
        source = random.Random(number)
        signs = len({letter for _, letter, _ in web.arrows})
        tried = {((), 1), ((), 2), ((), 3)}
        for _ in range(60):
            lot = drawn_lot(source, web)
            ways = source.randint(2, 4 if signs < 3 else 3)
            if len(tried) < 12 and all(plain_ways(lot, word) < ways for word in lot):
                tried.add((lot, ways))
        for lot, ways in sorted(tried):
            words = plain_made(web, lot, ways)
            if words is not None and len(words) <= 100:
                found.append((Book(web, words), ways, lot))
    return found


FULL = drawn_full()

# All stretches of a length are the words of a full book with as many ways; of those that are shorter by two letters or
# more there are just 2000 here, and one more than that.
JUST = Book(rows_web(["baaabccac", "caaccabaaacc"]), tuple(stretches(rows_web(["baaabccac", "caaccabaaacc"]), 33)))
OVER = Book(rows_web(["abccbacbbbaaabca", "babbccbcabaabbccccac"]), tuple(stretches(rows_web(["abccbacbbbaaabca", "babbccbcabaabbccccac"]), 32)))
# The book of its letters has 15 words, none of them inner.
FIFTEEN = Web(2, tuple(sorted([(0, letter, 1) for letter in "abcdefghijklmn"] + [(1, "o", 0)])))
# The books of more of its letters have at most 2000 stretches strictly within their words, one of them just so many.
JUST_ABOVE = Web(9, (
    (0, "c", 1), (1, "a", 2), (1, "b", 2), (1, "d", 2), (2, "b", 3), (2, "c", 3), (2, "d", 3), (3, "c", 4), (3, "d", 4),
    (4, "a", 5), (4, "b", 5), (4, "c", 5), (5, "a", 6), (5, "b", 6), (6, "a", 7), (6, "b", 7), (7, "a", 8), (7, "c", 8),
    (8, "z", 0),
))
# One has 2001 here.
OVER_ABOVE = Web(9, (
    (0, "b", 1), (0, "c", 1), (1, "a", 2), (1, "b", 2), (2, "b", 3), (2, "d", 3), (3, "b", 4), (3, "c", 4), (3, "d", 4),
    (4, "b", 5), (4, "c", 5), (4, "d", 5), (5, "a", 6), (5, "b", 6), (6, "a", 7), (6, "d", 7), (7, "a", 8), (7, "d", 8),
    (8, "z", 0),
))
NOT_FULL = [Book(F, ()), Book(F, ("a",)), Book(R, ("ab",)), Book(ring_web("ab"), ("ab",)), Book(F, THREE.words[1:])]
