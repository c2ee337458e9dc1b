"""Webs with as few points as any like them, one letter leading to one point at most."""

from neverjoin.errors import TooMany
from neverjoin.graphs import last_part
from neverjoin.masks import all_points, letter_moves
from neverjoin.webs import web_of

MOST_ENDS = 2000


def settled(web):
    """The web, like this one, with the fewest points from which no two arrows with one letter lead."""
    table = ends_table(web)
    parts = like_parts(table)
    steps = {}
    for mask in table:
        for letter, after in table[mask]:
            steps[(parts[mask], letter, parts[after])] = True
    # What one reads behind a stretch that leaves no doubt goes on here, and all comes to it.
    last = last_part(sorted(set(list(parts.values()))), list(steps))
    return web_of([(begin, letter, end) for begin, letter, end in steps if begin in last])


def ends_table(web):
    """The dict from the masks of the ends of all stretches to the lists of where letters lead from them."""
    moves = letter_moves(web)
    table = {}
    waiting = [all_points(web)]
    known = {all_points(web): True}
    while waiting:
        mask = waiting.pop()
        table[mask] = moves.listed(mask)
        for _, after in table[mask]:
            if after not in known:
                known[after] = True
                waiting.append(after)
        if len(known) > MOST_ENDS:
            raise TooMany(MOST_ENDS)
    return table


def like_parts(table):
    """The dict from each mask to the number of its part: those of one part have the same texts behind them."""
    parts = {mask: 0 for mask in table}
    many = 1
    while True:
        numbers = {}
        finer = {}
        for mask in table:
            shape = (parts[mask], tuple([(letter, parts[after]) for letter, after in table[mask]]))
            finer[mask] = numbers.setdefault(shape, len(numbers))
        if len(numbers) == many:
            return finer
        many = len(numbers)
        parts = finer
