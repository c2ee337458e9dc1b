"""The desk: 14.1, 14.2."""

import random
import unittest

from neverjoin.books import Book
from neverjoin.desk import Desk
from neverjoin.full import all_ways
from neverjoin.inner import inner, made
from neverjoin.lanes import lanes, turn
from neverjoin.listing import many_books
from neverjoin.making import free_web, ring_web
from neverjoin.tower import less
from neverjoin.texts import book_text
from plain import EVEN, F, FIFTEEN, FORK, FULL, G, NOT_FULL, R, THREE, TWO, error_of, odd_things, plain_ways, stretches_up_to

HEAD = "points 1|arrow 0 a 0|arrow 0 b 0|"


def lines_of(book):
    return book_text(book).replace("\n", "|")


def desk_with(**books):
    desk = Desk()
    for name, book in books.items():
        desk.tell("book " + name + " " + lines_of(book))
    return desk


class Told(unittest.TestCase):
    def test_each_form(self):
        for number, (book, ways, lot) in enumerate(FULL[::7]):
            desk = desk_with(one=book)
            self.assertEqual(desk.tell("full one"), str(ways))
            self.assertEqual(desk.tell("inner one"), " ".join(lot) if lot else "none")
            if ways > 1:
                self.assertEqual(desk.tell("less one"), " ".join(less(book).words))
            for text in stretches_up_to(book.web, 4)[1:]:
                self.assertEqual(desk.tell("ways one " + text), str(plain_ways(book.words, text)))
                if error_of(lanes, book, text) is None:
                    known = " ".join(str(rounds) for _, rounds in lanes(book, text))
                    self.assertEqual(desk.tell("lanes one " + text), known)
                    known = " ".join(str(item) for item in turn(book, text))
                    self.assertEqual(desk.tell("turn one " + text), known)
            for many in (1, 2):
                self.assertEqual(desk.tell("many one " + str(many)), str(many_books(book.web, many)))
            self.assertEqual(desk.undoable(), 1)

    def test_ordinary_ones(self):
        desk = Desk()
        self.assertEqual((desk.tell("names"), desk.undoable()), ("none", 0))
        self.assertEqual(desk.tell("book f " + HEAD + "word aa|word ab|word ba|word bb|"), "ok")
        self.assertEqual(desk.tell("book three " + lines_of(THREE)), "ok")
        self.assertEqual(desk.tell("book a " + HEAD), "ok")
        self.assertEqual((desk.tell("names"), desk.undoable()), ("a f three", 3))
        self.assertEqual([desk.tell("full " + name) for name in ("f", "three", "a")], ["2", "3", "no"])
        self.assertEqual([desk.tell("ways " + name + " ab") for name in ("f", "three", "a")], ["2", "2", "3"])
        self.assertEqual([desk.tell("inner " + name) for name in ("f", "three", "a")], ["none", "ab", "none"])
        self.assertEqual(desk.tell("less three"), "aa ab ba bb")
        self.assertEqual(desk.tell("less f"), "a b")
        self.assertEqual(desk.tell("lanes three aab"), "2 1")
        self.assertEqual(desk.tell("turn three aab"), "2 1 0")
        self.assertEqual([desk.tell("many a " + str(ways)) for ways in (1, 2, 3, 4)], ["1", "1", "3", "73"])
        self.assertEqual(desk.tell("drop f"), "ok")
        self.assertEqual((desk.tell("names"), desk.undoable()), ("a three", 4))
        for line in ("names", "full a", "undo"):
            self.assertIs(type(desk.tell(line)), str)

    def test_several_inner_words(self):
        book = made(F, ("aabb", "ab"), 5)
        self.assertEqual(desk_with(x=book).tell("inner x"), "aabb ab")
        ring = Book(ring_web("abc"), ("a", "b", "cabc"))
        self.assertEqual(desk_with(x=ring).tell("lanes x abc"), " ".join(str(rounds) for _, rounds in lanes(ring, "abc")))

    def test_names(self):
        desk = desk_with(b=TWO, abcdefgh=THREE, aa=TWO, z=Book(G, ()), zz=Book(R, ()))
        self.assertEqual(desk.tell("names"), "aa abcdefgh b z zz")
        self.assertEqual(desk.tell("full abcdefgh"), "3")
        for name in ("", "abcdefghi", "A", "a1", "1", "a_b", "a-b", "abcdefghijklmnopqrstuvwxyz"):
            self.assertEqual(error_of(desk.tell, "book " + name + " " + HEAD), "NoLine")
            self.assertEqual(error_of(desk.tell, "full " + name), "NoLine")
            self.assertEqual(error_of(desk.tell, "drop " + name), "NoLine")
        # The words of lines may be names.
        desk = desk_with(names=TWO, undo=THREE, book=TWO)
        self.assertEqual(desk.tell("names"), "book names undo")
        self.assertEqual((desk.tell("full undo"), desk.tell("full names")), ("3", "2"))


class Books(unittest.TestCase):
    def test_in_the_place_of_an_elder_one(self):
        desk = desk_with(x=TWO)
        self.assertEqual(desk.tell("book x " + lines_of(THREE)), "ok")
        self.assertEqual((desk.tell("full x"), desk.tell("names"), desk.undoable()), ("3", "x", 2))
        self.assertEqual((desk.tell("undo"), desk.tell("full x"), desk.undoable()), ("ok", "2", 1))
        self.assertEqual((desk.tell("undo"), desk.tell("names"), desk.undoable()), ("ok", "none", 0))

    def test_books_of_any_web(self):
        for book in (Book(G, ("aa", "aba", "b")), Book(EVEN, ()), made(FORK, (), 2), made(ring_web("abcdefghijkl"), (), 2), made(F, (), 6)):
            desk = desk_with(x=book)
            ways = all_ways(book)
            self.assertEqual(desk.tell("full x"), "no" if ways is None else str(ways))
            self.assertEqual(desk.tell("inner x"), " ".join(inner(book)) or "none")
        self.assertEqual(error_of(desk_with(x=Book(FIFTEEN, ())).tell, "many x 2"), "TooMany 14")

    def test_lines_that_cannot_be_read(self):
        desk = desk_with(x=TWO)
        for lines, error in (
            ("|", "BadText 1"), ("x", "BadText 1"), (" ", "BadText 1"), ("points 1", "BadText 1"), (HEAD[:-1], "BadText 3"),
            (HEAD + "|", "BadText 4"), (HEAD + " ", "BadText 4"), (" " + HEAD, "BadText 1"), (HEAD + "word  ab|", "BadText 4"),
            (HEAD + "\t|", "BadText 4"), ("points\t1|", "BadText 1"), (HEAD + "word ab|arrow 0 c 0|", "BadText 5"),
            ("points 1|", "BadWeb arrows"), ("points 13|", "BadWeb points"), ("points 2|arrow 0 a 0|", "BadWeb apart"),
            (HEAD + "word b|word a|", "BadBook words"), (HEAD + "word c|", "BadBook stretch"), (HEAD + "word a|word ab|", "BadBook clash"),
            ("points 01|arrow 0 a 0|", "BadText 1"), (HEAD + "word ab|word", "BadText 5"), ("||", "BadText 1"), ("~", "BadText 1"),
        ):
            for name in ("x", "y"):
                self.assertEqual(error_of(desk.tell, "book " + name + " " + lines), error)
            self.assertEqual((desk.tell("names"), desk.tell("full x"), desk.undoable()), ("x", "2", 1))

    def test_long_lines(self):
        words = [format(number, "09b").replace("0", "a").replace("1", "b") for number in range(400)]
        desk = desk_with(x=Book(F, tuple(words)))
        self.assertEqual(desk.tell("full x"), "no")
        self.assertEqual(desk.tell("ways x " + "b" * 400), "401")
        self.assertEqual(error_of(desk.tell, "book x " + "a" * 19000), "BadText 1")
        self.assertEqual(error_of(desk.tell, "a" * 20000), "NoLine")


class NoLines(unittest.TestCase):
    def setUp(self):
        self.desk = desk_with(f=TWO, g=Book(G, ()))

    def check(self, line, error="NoLine"):
        self.assertEqual(error_of(self.desk.tell, line), error, repr(line))
        self.assertEqual((self.desk.tell("names"), self.desk.tell("full f"), self.desk.undoable()), ("f g", "2", 2))

    def test_what_is_no_string(self):
        for thing in odd_things():
            self.check(thing)

    def test_blanks_too_many_or_too_few(self):
        for line in (
            "full f", "ways f ab", "inner f", "less f", "lanes f ab", "turn f ab", "many f 2", "names", "undo", "drop f",
        ):
            self.check(" " + line)
            self.check(line + " ")
            self.check(line + " a")
            self.check(line + " a b")
            self.check(line + "\n")
            self.check("\n" + line)
            self.check(line + "\t")
            self.check(line.upper())
            if " " in line:
                self.check(line.replace(" ", "  ", 1))
                self.check(line.replace(" ", "\t", 1))
                self.check(line.replace(" ", "\n", 1))
                self.check(line.replace(" ", "", 1))
                self.check(line.rsplit(" ", 1)[0])
                self.check(line.split(" ")[0])
        for line in ("", " ", "\n", "x", "|", "book", "book f", "book f ", "book  f " + HEAD, " book f " + HEAD, "book\tf " + HEAD):
            self.check(line)
        self.check("book f " + HEAD + "\n")
        self.check("book f " + HEAD.replace("|", "\n"))
        self.check("book f\t" + HEAD)
        self.check("book |" + HEAD)
        # Here points is a name.
        self.check("book " + HEAD, "BadText 1")
        # One sign stands behind the blank, so this is a book line.
        self.check("book f  ", "BadText 1")
        self.check("book f  " + HEAD, "BadText 1")

    def test_texts(self):
        for line in ("ways f ", "ways f A", "ways f a1", "ways f a|b", "lanes f AB", "lanes f ", "turn f a-b", "turn f 1", "ways f ab cd"):
            self.check(line)

    def test_numbers(self):
        for number in ("+1", "-1", "01", "00", "", "a", "1.0", "1234567890", "1 2", " 1", "1|", "1e1", "1_0"):
            self.check("many f " + number)
        for number in ("0", "7", "999999999"):
            self.check("many f " + number, "NoNumber")

    def test_names_that_are_not_there(self):
        for line in (
            "drop x", "full x", "ways x ab", "ways x c", "inner x", "less x", "lanes x a", "turn x a", "many x 2", "many x 0", "many x 7",
        ):
            self.check(line, "NoName x")
        self.check("full abcdefgh", "NoName abcdefgh")
        try:
            self.desk.tell("drop names")
        except ValueError as error:
            self.assertEqual(error.name, "names")

    def test_what_the_functions_raise(self):
        self.desk = desk_with(f=TWO, g=Book(G, ()))
        self.check("ways f c", "NoStretch")
        self.check("ways g bb", "NoStretch")
        self.check("less g", "NotFull")
        self.check("lanes g ab", "NotFull")
        self.check("lanes g bb", "NotFull")
        self.check("turn g ab", "NotFull")
        self.check("lanes f c", "NoRing")
        self.check("turn f abc", "NoRing")
        self.check("many f 5", "TooMany 14")
        self.check("many g 0", "NoNumber")
        desk = desk_with(x=made(F, (), 1))
        self.assertEqual(error_of(desk.tell, "less x"), "OneWay")
        for book in NOT_FULL:
            desk = desk_with(x=book)
            self.assertEqual((desk.tell("full x"), error_of(desk.tell, "less x")), ("no", "NotFull"))


class Undo(unittest.TestCase):
    def test_nothing_to_take_back(self):
        desk = Desk()
        for _ in range(2):
            self.assertEqual((error_of(desk.tell, "undo"), desk.undoable()), ("NothingDone", 0))
        desk.tell("book x " + HEAD)
        for line in ("names", "full x", "ways x a", "inner x"):
            desk.tell(line)
        self.assertEqual(desk.undoable(), 1)
        self.assertEqual((desk.tell("undo"), error_of(desk.tell, "undo")), ("ok", "NothingDone"))

    def test_of_a_drop(self):
        desk = desk_with(x=TWO, y=THREE)
        desk.tell("drop x")
        desk.tell("drop y")
        self.assertEqual((desk.tell("names"), desk.undoable()), ("none", 4))
        self.assertEqual(error_of(desk.tell, "drop x"), "NoName x")
        self.assertEqual((desk.tell("undo"), desk.tell("names"), desk.tell("full y")), ("ok", "y", "3"))
        desk.tell("book x " + HEAD)
        self.assertEqual((desk.tell("full x"), desk.undoable()), ("no", 4))
        self.assertEqual((desk.tell("undo"), desk.tell("undo"), desk.tell("full x")), ("ok", "ok", "2"))
        self.assertEqual((desk.tell("names"), desk.undoable()), ("x y", 2))

    def test_drawn_lines(self):
        books = [TWO, THREE, Book(G, ("aa", "aba", "b")), Book(F, ()), made(R, (), 2)]
        for seed in range(30):
            source = random.Random(seed)
            desk = Desk()
            states = [{}]
            for _ in range(60):
                name = source.choice(["a", "b", "abcdefgh"])
                kind = source.choice(["book", "book", "drop", "undo", "wrong"])
                now = dict(states[-1])
                if kind == "book":
                    book = source.choice(books)
                    self.assertEqual(desk.tell("book " + name + " " + lines_of(book)), "ok")
                    states.append({**now, name: book})
                elif kind == "drop" and name in now:
                    self.assertEqual(desk.tell("drop " + name), "ok")
                    states.append({other: book for other, book in now.items() if other != name})
                elif kind == "drop":
                    self.assertEqual(error_of(desk.tell, "drop " + name), "NoName " + name)
                elif kind == "undo" and len(states) > 1:
                    self.assertEqual(desk.tell("undo"), "ok")
                    states.pop()
                elif kind == "undo":
                    self.assertEqual(error_of(desk.tell, "undo"), "NothingDone")
                else:
                    self.assertEqual(error_of(desk.tell, "book " + name + " " + HEAD + "word"), "BadText 4")
                now = states[-1]
                self.assertEqual(desk.tell("names"), " ".join(sorted(now)) or "none")
                self.assertEqual(desk.undoable(), len(states) - 1)
                for one, book in now.items():
                    ways = all_ways(book)
                    self.assertEqual(desk.tell("full " + one), "no" if ways is None else str(ways))
                    self.assertEqual(desk.tell("inner " + one), " ".join(inner(book)) or "none")

    def test_desks_are_apart(self):
        one, other = Desk(), Desk()
        one.tell("book x " + HEAD)
        self.assertEqual((other.tell("names"), other.undoable(), one == other), ("none", 0, False))
        self.assertEqual(desk_with(x=Book(free_web("ab"), TWO.words)).tell("less x"), "a b")


if __name__ == "__main__":
    unittest.main()
