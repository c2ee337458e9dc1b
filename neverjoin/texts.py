"""Webs, books and lots, written as texts."""


def web_text(web):
    """The text of a web: a line for its points, and one for each arrow."""
    rows = [f"arrow {begin} {letter} {end}\n" for begin, letter, end in web.arrows]
    return f"points {web.points}\n" + "".join(rows)


def book_text(book):
    """The text of a book: that of its web, and a line for each word."""
    return web_text(book.web) + lot_text(book.words)


def lot_text(lot):
    """The text of a lot: a line for each word."""
    return "".join([f"word {word}\n" for word in lot])
