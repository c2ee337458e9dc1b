"""Exchanges: full books with as many ways whose inner words are one more or one fewer."""

from neverjoin.errors import NoExchange, NoPath
from neverjoin.full import ask_full, clashes
from neverjoin.graphs import shortest_row
from neverjoin.inner import find_bar, inner, lot_book, thick_word
from neverjoin.kinds import is_row, is_text
from neverjoin.listing import listed_books
from neverjoin.webs import is_stretch


def lot_with(web, lot, ways, text):
    """The lot with a word more, None if it is no lot of the inner words of a full book with so many ways."""
    if not is_stretch(web, text) or text == "" or any([clashes(word, text) for word in lot]):
        return None
    longer = tuple(sorted(lot + (text,)))
    if find_bar(web, longer, ways) is not None:
        return None
    return longer


def lot_without(lot, ways, text):
    """The lot of the inner words of a full book without one of them, None if it is no such lot."""
    if text not in lot:
        return None
    shorter = words_but(lot, text)
    # Fewer words end at fewer places, so no ring can bar them.
    if thick_word(shorter, ways) is not None:
        return None
    return shorter


def words_but(lot, text):
    """The tuple of the words of a lot without one of them."""
    return tuple([word for word in lot if word != text])


def put_in(book, text):
    """The exchange of a full book with a text as a further inner word."""
    many = ask_full(book)
    return exchanged(book, many, lot_with(book.web, inner(book), many, text))


def taken_out(book, text):
    """The exchange of a full book without one of its inner words."""
    many = ask_full(book)
    return exchanged(book, many, lot_without(inner(book), many, text))


def exchanged(book, many, lot):
    """The full book of a lot: NoExchange if there is no lot."""
    if lot is None:
        raise NoExchange()
    return lot_book(book.web, lot, many)


def exchanges(book):
    """The ascending list of all pairs ("out", text) for which there is an exchange."""
    many = ask_full(book)
    lot = inner(book)
    return [("out", word) for word in lot if lot_without(lot, many, word) is not None]


def path(one, other):
    """A list of as few exchanges as any that lead from one full book to another one."""
    many = ask_full(one)
    if ask_full(other) != many or not one.web == other.web:
        raise NoPath()
    lots = [inner(book) for book in listed_books(one.web, many)]
    return shortest_row(exchanges_between(lots), [inner(one)], [inner(other)])


def exchanges_between(lots):
    """The dict that has for each of some lots the list of pairs of an exchange and the lot to which it leads."""
    leading = {lot: [] for lot in lots}
    for lot in lots:
        for word in lot:
            shorter = words_but(lot, word)
            if shorter in leading:
                leading[lot].append((("out", word), shorter))
                leading[shorter].append((("in", word), lot))
    return leading


def is_path(one, other, thing):
    """Whether a thing is a row of exchanges that lead from one full book to another one."""
    many = ask_full(one)
    if ask_full(other) != many or not one.web == other.web:
        return False
    if not is_row(thing) or not all([is_exchange(item) for item in thing]):
        return False
    lot = inner(one)
    # Many exchanges can stand in a path, but they may come to the same lots over and over.
    known = {}
    for item in thing:
        if (lot, item) not in known:
            known[(lot, item)] = lot_behind(one.web, lot, many, item)
        lot = known[(lot, item)]
        if lot is None:
            return False
    return lot == inner(other)


def is_exchange(thing):
    """Whether a thing is a pair of "in" or "out" and a text."""
    if not isinstance(thing, tuple) or len(thing) != 2:
        return False
    return is_text(thing[0]) and thing[0] in ("in", "out") and is_text(thing[1])


def lot_behind(web, lot, ways, item):
    """The lot to which an exchange leads, None if there is no such one."""
    kind, text = item
    if kind == "in":
        return lot_with(web, lot, ways, text)
    return lot_without(lot, ways, text)
