"""Webs, books and lots, read from texts."""

from neverjoin.books import Book, wrong_part
from neverjoin.errors import BadText, NoLot
from neverjoin.kinds import is_decimal, is_letter, is_text
from neverjoin.webs import Web


def read_web(text):
    """The web that a text tells."""
    points, rows = read_parts(text, ("arrow",))
    return Web(points, rows[0])


def read_book(text):
    """The book that a text tells."""
    points, rows = read_parts(text, ("arrow", "word"))
    return Book(Web(points, rows[0]), rows[1])


def read_lot(web, text):
    """The lot of a web that a text tells."""
    ask_string(text)
    words = read_lines(text, 0, ("word",))[0]
    if wrong_part(web, words) is not None:
        raise NoLot()
    return words


def ask_string(thing):
    """Raise BadText unless a thing is a string."""
    if not isinstance(thing, str):
        raise BadText(0)


def read_parts(text, kinds):
    """The pair of the points, of which the first line tells, and what the lines behind it tell."""
    ask_string(text)
    line, closed, behind = text.partition("\n")
    words = line.split(" ")
    if closed == "" or words[0] != "points" or len(words) != 2 or not is_decimal(words[1]):
        raise BadText(1)
    return (int(words[1]), read_lines(behind, 1, kinds))


def read_lines(text, ahead, kinds):
    """The list of the tuples of what the lines of each of some kinds tell, which come in this order.

    So many lines are ahead of the text.
    """
    lines = text.split("\n")
    found = [[] for _ in kinds]
    stage = 0
    for number, line in enumerate(lines[:-1], start=ahead + 1):
        words = line.split(" ")
        # Once a line has a later kind, those ahead of it are done with.
        while stage < len(kinds) and not is_line(kinds[stage], words):
            stage += 1
        if stage == len(kinds):
            raise BadText(number)
        found[stage].append(told(words))
    if lines[-1] != "":
        raise BadText(ahead + len(lines))
    return [tuple(rows) for rows in found]


def is_line(kind, words):
    """Whether some words are a line of a kind."""
    if words[0] != kind:
        return False
    if kind == "word":
        return len(words) == 2 and words[1] != "" and is_text(words[1])
    return len(words) == 4 and is_decimal(words[1]) and is_letter(words[2]) and is_decimal(words[3])


def told(words):
    """What the words of a line tell: an arrow or a word."""
    if words[0] == "word":
        return words[1]
    return (int(words[1]), words[2], int(words[3]))
