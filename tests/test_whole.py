"""The whole program: one book through all functions, webs of any size, equal things made apart, wrong things, 0.1 to 0.5."""

import copy
import unittest
from fractions import Fraction

from neverjoin.books import Book, clash
from neverjoin.carried import composed, cut_down, renamed_book, turned_book
from neverjoin.chances import chance, mean, shares
from neverjoin.climbs import Climb
from neverjoin.desk import Desk
from neverjoin.dividing import divided, divisors
from neverjoin.errors import JoinError
from neverjoin.exchanges import exchanges, is_path, path, put_in, taken_out
from neverjoin.frames import first_with, frame, longest_row, row_at, row_number, told_by
from neverjoin.full import addable, all_ways, is_addable, is_full, is_loose, is_misfit, loose, misfit
from neverjoin.inner import barred, inner, is_barred, made, word_count
from neverjoin.jumps import jumps, ring_book, word_parts, word_steps
from neverjoin.lanes import lane_words, lanes, since, turn, turns
from neverjoin.likeness import are_like, lies_in, unlike_text
from neverjoin.listing import all_books, book_at, book_number, cheapest, filled, many_books, sizes
from neverjoin.making import free_web, left_out, renamed, ring_web, rows_web, turned
from neverjoin.reading import read_book, read_lot, read_web
from neverjoin.readings import comings, is_reading, many_rows, reading_at, readings, ways, words_of
from neverjoin.settling import settled
from neverjoin.stocks import Stock
from neverjoin.strangers import fooled, is_all_readings, lost, sure_cuts
from neverjoin.stretches import (
    is_ring, least_ring, many_stretches, number_of, rings, round_rings, stretch_at, stretches,
)
from neverjoin.texts import book_text, lot_text, web_text
from neverjoin.thin import settling, thin, ways_counts
from neverjoin.tower import less, more
from neverjoin.towers import address, book_by, layers
from neverjoin.walkers import Walker
from neverjoin.webs import Web, after, before, ends, is_stretch, letters, pairs, surplus
from plain import BOOKS, F, FULL, G, R, THREE, TWO, nested, odd_things, walk_texts

WIDE = [
    rows_web(["aab" * 4, "b" * 13]), rows_web(["aab" * 6, "b" * 20, "ab" * 10]), rows_web(["abcab" * 4, "cba" * 6, "a" * 20]),
    left_out("abcdefghijkl", ["ab", "bc", "cd", "de", "ef", "fg"]),
]


def even_chances(web):
    """For each point all its arrows alike."""
    many = [sum(begin == point for begin, _, _ in web.arrows) for point in range(web.points)]
    return tuple((1, many[begin]) for begin, _, _ in web.arrows)


def text_within(web, length):
    """A stretch of a length: the first one."""
    return stretch_at(web, length, 0)


def web_calls(web):
    """Calls of all functions that speak of a web, by name."""
    text = text_within(web, 3)
    ring = least_ring(web)
    chances = even_chances(web)
    names = dict(zip(letters(web), "zyxwvutsrqponmlk"))
    lot = (text_within(web, 2),)
    return {
        "letters": lambda: letters(web), "after": lambda: after(web, text), "before": lambda: before(web, text),
        "is_stretch": lambda: is_stretch(web, text), "ends": lambda: ends(web, text), "pairs": lambda: pairs(web, text),
        "surplus": lambda: surplus(web, text), "many_stretches": lambda: many_stretches(web, 9),
        "number_of": lambda: number_of(web, text), "stretches": lambda: stretches(web, 3), "rings": lambda: rings(web, 3),
        "round_rings": lambda: round_rings(web, 3), "stretch_at": lambda: stretch_at(web, 5, 1), "least_ring": lambda: ring,
        "is_ring": lambda: is_ring(web, ring), "turned": lambda: turned(web), "renamed": lambda: renamed(web, names),
        "lies_in": lambda: lies_in(web, web), "are_like": lambda: are_like(web, turned(turned(web))),
        "unlike_text": lambda: unlike_text(web, free_web("ab")), "settled": lambda: settled(web),
        "misfit": lambda: misfit(web, list(letters(web))), "is_misfit": lambda: is_misfit(web, [text], ("word", 0)),
        "made": lambda: made(web, (), 3), "made with": lambda: made(web, lot, 3), "barred": lambda: barred(web, lot, 3),
        "is_barred": lambda: is_barred(web, lot, 3, ("word", lot[0])), "all_books": lambda: all_books(web, 2),
        "many_books": lambda: many_books(web, 2), "book_at": lambda: book_at(web, 2, 1), "sizes": lambda: sizes(web, 2),
        "cheapest": lambda: cheapest(web, 2, {letter: 7 for letter in letters(web)}), "book_by": lambda: book_by(web, (0,)),
        "shares": lambda: shares(web, chances), "chance": lambda: chance(web, chances, text),
        "stock": lambda: stock_of(web, lot), "climb": lambda: climb_of(web), "web_text": lambda: web_text(web),
        "read_lot": lambda: read_lot(web, lot_text(lot)),
    }


def stock_of(web, lot):
    stock = Stock(web, 3)
    for word in lot:
        stock.put(word)
    return (stock.lot(), stock.book(), stock.depth(), stock.copy().trying(lambda one: [one.back(), one.lot()]))


def climb_of(web):
    climb = Climb(web)
    climb.up(0)
    return (climb.book(), climb.depth(), climb.copy().trying(lambda one: [one.down(), one.book()]))


def book_calls(book):
    """Calls of all functions that speak of a book, by name."""
    web = book.web
    text = text_within(web, 5)
    ring = least_ring(web)
    names = dict(zip(letters(web), "zyxwvutsrqponmlk"))
    return {
        "comings": lambda: comings(book, text), "readings": lambda: readings(book, text), "ways": lambda: ways(book, text),
        "reading_at": lambda: reading_at(book, text, 2), "is_reading": lambda: is_reading(book, text, (0, 2)),
        "words_of": lambda: words_of(book, book.words[0]), "many_rows": lambda: many_rows(book, 6), "row_at": lambda: row_at(book, 6, 0),
        "row_number": lambda: row_number(book, book.words[-1]), "frame": lambda: frame(book, text),
        "told_by": lambda: told_by(book, text, (1, 3)), "longest_row": lambda: longest_row(book, text),
        "first_with": lambda: first_with(book, 2), "is_full": lambda: is_full(book), "is_addable": lambda: is_addable(book, text),
        "is_loose": lambda: is_loose(book, 2, text), "all_ways": lambda: all_ways(book), "addable": lambda: addable(book),
        "loose": lambda: loose(book, 3), "misfit": lambda: misfit(web, book.words[:400]), "thin": lambda: thin(book),
        "settling": lambda: settling(book), "ways_counts": lambda: ways_counts(book, 6), "lanes": lambda: lanes(book, ring),
        "lane_words": lambda: lane_words(book, ring), "turns": lambda: turns(book, 3), "turn": lambda: turn(book, ring),
        "since": lambda: since(book, ring), "jumps": lambda: jumps(book, ring), "word_steps": lambda: word_steps(book),
        "word_parts": lambda: word_parts(book), "inner": lambda: inner(book), "word_count": lambda: word_count(book),
        "less": lambda: less(book), "more": lambda: more(book), "book_number": lambda: book_number(book),
        "filled": lambda: filled(book, 2), "layers": lambda: layers(book), "address": lambda: address(book),
        "put_in": lambda: put_in(book, text[:2]), "taken_out": lambda: taken_out(book, "ab"), "exchanges": lambda: exchanges(book),
        "path": lambda: path(book, book), "is_path": lambda: is_path(book, book, []), "cut_down": lambda: cut_down(book, web),
        "turned_book": lambda: turned_book(book), "renamed_book": lambda: renamed_book(book, names),
        "composed": lambda: composed(book, made(free_web("abcd"), (), 2)), "divided": lambda: divided(book, book),
        "divisors": lambda: divisors(book), "mean": lambda: mean(book, even_chances(web)), "fooled": lambda: fooled(book, text, len),
        "sure_cuts": lambda: sure_cuts(book, text), "is_all_readings": lambda: is_all_readings(book, text, readings(book, text)),
        "lost": lambda: lost(book, book.words[0], book.words[-1]), "walker": lambda: walked(book, text),
        "book_text": lambda: book_text(book), "lot_text": lambda: lot_text(inner(book)),
        "desk": lambda: Desk().tell("book x " + book_text(book).replace("\n", "|")),
    }


def walked(book, text):
    walker = Walker(book)
    words = [walker.take(sign) for sign in text]
    return (words, walker.many(), walker.since(), walker.text(), walker.depth(), walker.copy().trying(lambda one: [one.back(), one.text()]))


def plainly(thing):
    """A result without objects of the package, of which equal ones are alike."""
    if isinstance(thing, Web):
        return ("web", thing.points, thing.arrows)
    if isinstance(thing, Book):
        return ("book", plainly(thing.web), thing.words)
    if isinstance(thing, (list, tuple)):
        return (type(thing).__name__, [plainly(item) for item in thing])
    if isinstance(thing, dict):
        return ("dict", sorted((key, plainly(item)) for key, item in thing.items()))
    return (type(thing).__name__, thing)


def spoil(thing):
    """Spoil all lists and dicts of a result."""
    if isinstance(thing, (list, tuple)):
        for item in thing:
            spoil(item)
    if isinstance(thing, dict):
        for item in thing.values():
            spoil(item)
        thing.clear()
    if isinstance(thing, list):
        thing[:] = ["spoiled"]


def answers(calls):
    """The dict from the names of calls to what they tell; each is called twice, and its first result spoiled between."""
    found = {}
    for name, call in calls.items():
        try:
            result = call()
            found[name] = plainly(result)
            spoil(result)
            if plainly(call()) != found[name]:
                raise AssertionError(name)
        except JoinError as error:
            found[name] = (type(error).__name__, vars(error))
    return found


class OneBook(unittest.TestCase):
    def check(self, book, many):
        web = book.web
        self.assertEqual((all_ways(book), is_full(book)), (many, True))
        self.assertEqual((addable(book), loose(book, many), misfit(web, book.words)), (None, None, None))
        self.assertEqual((word_count(book)[0], word_count(book)[2]), (many, len(book.words)))
        self.assertEqual(len(layers(book)), many)
        self.assertEqual(max(ways_counts(book, 30)), many)
        self.assertEqual(list(ways_counts(book, settling(book) + 1)), [many])
        self.assertTrue(all(ways(book, text) < many for text in thin(book)))
        for ring in rings(web, 2) + rings(web, 3) + [least_ring(web)]:
            self.assertEqual(sum(rounds for _, rounds in lanes(book, ring)), many)
            self.assertEqual((len(turn(book, ring)), len(since(book, ring))), (many, many))
            self.assertEqual(sum(jumps(book, ring)), many * len(ring))
            self.assertEqual(sum(len(word) for words in lane_words(book, ring) for word in words), many * len(ring))
        self.assertEqual(mean(book, even_chances(web)), ((1, 1), (many, 1)))
        # Led live: behind enough letters there are as many readings as ways, for each walk.
        walker = Walker(book)
        for sign in text_within(web, settling(book) + 3):
            walker.take(sign)
        self.assertEqual((walker.many(), len(walker.since())), (many, many))
        self.assertEqual(all_ways(turned_book(book)), many)
        self.assertEqual(all_ways(renamed_book(book, dict(zip(letters(web), "zyx")))), many)
        self.assertEqual(all_ways(cut_down(book, web)), many)
        self.assertEqual(all_ways(cut_down(book, settled(web))), many)
        self.assertEqual(made(web, inner(book), many), book)
        if many > 1:
            self.assertEqual((all_ways(less(book)), len(address(book))), (many - 1, many - 1))
            self.assertEqual(book_by(web, address(book)), book)
        if web.points == 1:
            self.assertEqual(all_ways(composed(book, made(one_point(len(book.words)), (), 2))), 2 * many)
        for _, word in exchanges(book):
            other = taken_out(book, word)
            self.assertEqual((all_ways(other), put_in(other, word)), (many, book))

    def test_as_many_ways_everywhere(self):
        for book, many, lot in FULL[::4] + [(TWO, 2, ()), (THREE, 3, ("ab",))]:
            if len(book.words) - len(inner(book)) > 14 or len(book.words) > 26:
                continue
            self.check(book, many)
            stock = Stock(book.web, many)
            for word in sorted(lot, key=len):
                stock.put(word)
            self.assertEqual((stock.lot(), stock.book()), (lot, book))
            climb = Climb(book.web)
            for number in address(book):
                climb.up(number)
            self.assertEqual(climb.book(), book)
            desk = Desk()
            if book.web.points <= 12:
                desk.tell("book x " + book_text(book).replace("\n", "|"))
                self.assertEqual(desk.tell("full x"), str(many))
                self.assertEqual(desk.tell("inner x"), " ".join(lot) or "none")

    def test_all_books_with_so_many_ways(self):
        for web, many in ((F, 3), (G, 4), (R, 3), (WIDE[0], 2)):
            books = all_books(web, many)
            self.assertEqual((len(books), sum(sizes(web, many).values())), (many_books(web, many),) * 2)
            for number, book in enumerate(books):
                self.assertEqual((book_number(book), all_ways(book)), (number, many))
                self.assertEqual(book_at(web, many, number), book)
                self.assertIs(is_path(books[0], book, path(books[0], book)), True)


def one_point(many):
    return Web(1, tuple((0, letter, 0) for letter in "abcdefghijklmnopqrstuvwxyz"[:many]))


class AnySize(unittest.TestCase):
    def test_webs_that_were_returned(self):
        for web in WIDE:
            self.assertTrue(web.points > 12 or len(web.arrows) > 60)
            found = answers(web_calls(web))
            for name, told in found.items():
                few = {"all_books", "many_books", "book_at", "sizes", "cheapest", "made with", "stock", "book_by", "climb"}
                if told[0] in ("TooMany", "NoNumber", "NoWord"):
                    self.assertIn(name, few)
                self.assertNotIn(told[0], ("BadWeb", "BadBook"))
            self.assertEqual(found["lies_in"], ("bool", True))
            self.assertEqual(sum(Fraction(*share) for share in shares(web, even_chances(web))), 1)
            self.assertEqual(turned(turned(web)), web)
            self.assertEqual(stretches(web, 3), sorted(walk_texts(web, 3)))

    def test_books_that_were_returned(self):
        for web in WIDE + [free_web("abcdefghijkl")]:
            for many in (1, 2, 3):
                book = made(web, (), many)
                found = answers(book_calls(book))
                self.assertEqual(found["all_ways"], ("int", many))
                self.assertEqual(found["mean"], plainly(((1, 1), (many, 1))))
                self.assertEqual(found["cut_down"], plainly(book))
                for name, told in found.items():
                    if name != "desk":
                        self.assertNotIn(told[0], ("BadWeb", "BadBook", "BadText"))
                bounded = web.points <= 12 and len(web.arrows) <= 60 and len(book.words) <= 400
                self.assertEqual(found["desk"][0], "str" if bounded else "BadBook" if web.points == 1 else "BadWeb")

    def test_what_was_returned_is_passed_on(self):
        long_one = Book(free_web("a"), ("a" * 60,))
        for _ in range(3):
            long_one = more(long_one)[0]
        self.assertEqual((all_ways(long_one), inner(long_one), less(long_one).words), (63, (), ("a" * 62,)))
        text = loose(Book(F, ("a",)), 100)
        self.assertGreater(ways(Book(F, ("a",)), text), 100)
        row = row_at(TWO, 200, 2 ** 200 - 1)
        self.assertEqual(row_number(TWO, row), 2 ** 200 - 1)
        twelve = made(free_web("abcdefghijkl"), (), 4)
        self.assertEqual(turned_book(turned_book(twelve)), twelve)
        self.assertIs(is_path(twelve, put_in(twelve, "ab"), [("in", "ab")]), True)


def made_apart(book, many, lot):
    """Books equal to a full book, made in several ways."""
    web = book.web
    there = dict(zip(letters(web), "zyx"))
    back = {other: letter for letter, other in there.items()}
    found = [
        Book(Web(web.points, tuple([tuple(list(arrow)) for arrow in web.arrows])), tuple([word[:1] + word[1:] for word in book.words])),
        read_book(book_text(book)), turned_book(turned_book(book)), renamed_book(renamed_book(book, there), back),
        cut_down(book, web), made(read_web(web_text(web)), lot, many), made(turned(turned(web)), tuple(list(lot)), many),
        copy.deepcopy(book),
    ]
    if web.points == 1 and len(book.words) <= 26:
        found.append(composed(made(web, (), 1), renamed_book(book, dict(zip(letters(web), "abc")))))
        found.append(composed(book, made(one_point(len(book.words)), (), 1)))
    return found


class MadeApart(unittest.TestCase):
    def test_equal_books_answer_alike(self):
        chosen = [one for one in FULL if one[0].web.points <= 12 and len(one[0].words) <= 12][::12]
        for book, many, lot in chosen + [(TWO, 2, ()), (THREE, 3, ("ab",))]:
            known = answers(book_calls(book))
            known_of_web = answers(web_calls(book.web))
            for other in made_apart(book, many, lot):
                self.assertEqual(other, book)
                self.assertEqual((other.web, other.words), (book.web, book.words))
                self.assertEqual(answers(book_calls(other)), known)
                self.assertEqual(answers(web_calls(other.web)), known_of_web)
                self.assertEqual(answers(book_calls(book)), known)

    def test_equal_books_that_are_not_full(self):
        for book in [one for one in BOOKS if one.words and one.web.points <= 12][::9]:
            known = answers(book_calls(book))
            there = dict(zip(letters(book.web), "zyx"))
            back = {other: letter for letter, other in there.items()}
            for other in (read_book(book_text(book)), turned_book(turned_book(book)), renamed_book(renamed_book(book, there), back)):
                self.assertEqual(other, book)
                self.assertEqual(answers(book_calls(other)), known)

    def test_equal_only_to_their_own_kind(self):
        things = [F, TWO, Walker(TWO), Stock(F, 2), Climb(F), Desk()]
        for at, thing in enumerate(things):
            for other in things[:at] + things[at + 1:] + odd_things():
                if plainly(thing) == plainly(other):
                    continue
                self.assertIs(thing == other, False)
                self.assertIs(other == thing, False)
                self.assertIs(thing != other, True)
        self.assertIs(F == free_web("ab"), True)
        self.assertIs(TWO == Book(free_web("ab"), TWO.words), True)
        self.assertIs(F == ring_web("a"), False)
        self.assertIs(Book(F, ("a",)) == Book(free_web("abc"), ("a",)), False)


class WrongThings(unittest.TestCase):
    def functions(self):
        """All functions that judge a thing, each with that thing alone left open."""
        third = ((1, 3), (2, 3))
        return [
            lambda thing: Web(thing, ((0, "a", 0),)), lambda thing: Web(1, thing), lambda thing: Book(F, thing),
            lambda thing: is_stretch(F, thing), lambda thing: ends(F, thing), lambda thing: after(F, thing),
            lambda thing: before(F, thing), lambda thing: pairs(F, thing), lambda thing: surplus(F, thing),
            lambda thing: many_stretches(F, thing), lambda thing: number_of(F, thing), lambda thing: stretches(F, thing),
            lambda thing: rings(F, thing), lambda thing: round_rings(F, thing), lambda thing: stretch_at(F, thing, 0),
            lambda thing: stretch_at(F, 2, thing), lambda thing: is_ring(F, thing), free_web, ring_web, rows_web,
            lambda thing: renamed(F, thing), lambda thing: left_out(thing, ()), lambda thing: left_out("ab", thing), clash,
            lambda thing: comings(TWO, thing), lambda thing: readings(TWO, thing), lambda thing: ways(TWO, thing),
            lambda thing: reading_at(TWO, thing, 0), lambda thing: reading_at(TWO, "ab", thing),
            lambda thing: is_reading(TWO, "ab", thing), lambda thing: words_of(TWO, thing), lambda thing: many_rows(TWO, thing),
            lambda thing: row_at(TWO, thing, 0), lambda thing: row_at(TWO, 2, thing), lambda thing: row_number(TWO, thing),
            lambda thing: frame(TWO, thing), lambda thing: told_by(TWO, "ab", thing), lambda thing: longest_row(TWO, thing),
            lambda thing: first_with(TWO, thing), lambda thing: is_addable(TWO, thing), lambda thing: is_loose(TWO, 1, thing),
            lambda thing: is_loose(TWO, thing, "ab"), lambda thing: loose(TWO, thing), lambda thing: misfit(F, thing),
            lambda thing: is_misfit(F, thing, None), lambda thing: is_misfit(F, ["a"], thing), lambda thing: ways_counts(TWO, thing),
            lambda thing: lanes(TWO, thing), lambda thing: lane_words(TWO, thing), lambda thing: turn(TWO, thing),
            lambda thing: since(TWO, thing), lambda thing: turns(TWO, thing), lambda thing: jumps(TWO, thing),
            lambda thing: ring_book(thing, (1,)), lambda thing: ring_book("ab", thing), lambda thing: made(F, thing, 2),
            lambda thing: made(F, (), thing), lambda thing: barred(F, thing, 2), lambda thing: is_barred(F, (), 2, thing),
            lambda thing: is_barred(F, thing, 2, None), lambda thing: all_books(F, thing), lambda thing: many_books(F, thing),
            lambda thing: book_at(F, 2, thing), lambda thing: book_at(F, thing, 0), lambda thing: sizes(F, thing),
            lambda thing: filled(TWO, thing), lambda thing: cheapest(F, thing, {"a": 1, "b": 1}), lambda thing: cheapest(F, 2, thing),
            lambda thing: book_by(F, thing), lambda thing: put_in(TWO, thing), lambda thing: taken_out(TWO, thing),
            lambda thing: is_path(TWO, TWO, thing), lambda thing: renamed_book(TWO, thing), lambda thing: shares(F, thing),
            lambda thing: chance(F, thing, "a"), lambda thing: chance(F, third, thing), lambda thing: mean(TWO, thing),
            lambda thing: fooled(TWO, thing, len), lambda thing: fooled(TWO, "ab", lambda told: thing),
            lambda thing: sure_cuts(TWO, thing), lambda thing: is_all_readings(TWO, thing, []),
            lambda thing: is_all_readings(TWO, "ab", thing), lambda thing: lost(TWO, thing, "ab"), lambda thing: lost(TWO, "ab", thing),
            lambda thing: Walker(TWO).take(thing), lambda thing: Stock(F, thing), lambda thing: Stock(F, 3).put(thing),
            lambda thing: Stock(F, 3).drop(thing), lambda thing: Climb(F).up(thing), lambda thing: Climb(F).put(thing),
            lambda thing: Climb(F).drop(thing), read_web, read_book, lambda thing: read_lot(F, thing), lambda thing: Desk().tell(thing),
        ]

    def test_only_errors_of_the_package(self):
        wraps = [lambda thing: thing, lambda thing: [thing], lambda thing: (thing,), lambda thing: (thing, thing), lambda thing: ((thing,),)]
        for function in self.functions():
            for wrap in wraps:
                for thing in odd_things():
                    try:
                        function(wrap(thing))
                    except JoinError:
                        pass

    def test_deep_and_long_things(self):
        deep = [
            nested(39, lambda thing: [thing]), nested(39, lambda thing: (thing, "a")), nested(38, lambda thing: {0: thing}),
            [nested(30, lambda thing: (thing,))] * 300, tuple("a" * 10000), [("a", 1)] * 5000, {at: "a" for at in range(5000)},
            {(1, 2): 3, "a": 4, None: 5}, b"a" * 5000, range(10 ** 9), [b"a", "a", 1], ("a", None), {"a": TWO}, [F, TWO, THREE],
        ]
        for function in self.functions():
            for thing in deep:
                try:
                    function(thing)
                except JoinError:
                    pass

    def test_what_is_passed_stays(self):
        for function in self.functions():
            for thing in ([["a"], "b", {"a": [1]}], {"a": ["b"], "b": {"c": 1}}, ["a", "b"], [(0, 1), (1, 0)], [1, 0]):
                kept = copy.deepcopy(thing)
                try:
                    function(thing)
                except JoinError:
                    pass
                self.assertEqual(thing, kept)


if __name__ == "__main__":
    unittest.main()
