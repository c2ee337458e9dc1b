"""Words as jumps from place to place of a ring, and as steps from point to point of a web."""

from neverjoin.books import Book, least_clash
from neverjoin.errors import NoJumps
from neverjoin.graphs import led_back, links, reached
from neverjoin.kinds import is_number
from neverjoin.lanes import ask_sizes
from neverjoin.making import ring_web
from neverjoin.masks import Moves, points_of

LONGEST_JUMP = 60


def jumps(book, ring):
    """The tuple of the numbers of letters of the words that begin at the places of a ring."""
    return tuple(ask_sizes(book, ring))


def ring_book(text, jumps):
    """The book of the ring web of a text with a word of so many letters from each place, None if there is none."""
    web = ring_web(text)
    if not are_jumps(len(text), jumps):
        raise NoJumps()
    long_text = text * (LONGEST_JUMP // len(text) + 2)
    words = sorted(set([long_text[place:place + size] for place, size in enumerate(jumps)]))
    if least_clash(words) is not None:
        return None
    return Book(web, tuple(words))


def are_jumps(many, thing):
    """Whether a thing is a tuple of jumps from so many places of a ring, no two of them to one place."""
    if not isinstance(thing, tuple) or len(thing) != many:
        return False
    if not all([is_number(1, LONGEST_JUMP, size) for size in thing]):
        return False
    return len(set([(place + size) % many for place, size in enumerate(thing)])) == many


def word_steps(book):
    """The ascending list of the triples (point, word, point) between which walks with words lead."""
    moves = Moves(book.web, book.words)
    found = []
    for begin in range(book.web.points):
        for word, mask in moves.listed(1 << begin):
            found += [(begin, word, end) for end in points_of(mask)]
    return found


def word_parts(book):
    """The ascending list of the ascending tuples of points that word steps lead to one another."""
    steps = word_steps(book)
    onward = links(steps)
    backward = links(led_back(steps))
    found = []
    seen = {}
    for point in range(book.web.points):
        if point not in seen:
            behind = reached(backward, point)
            part = [end for end in sorted(reached(onward, point)) if end in behind]
            seen.update({end: True for end in part})
            found.append(tuple(part))
    return found
