"""Webs compared by their stretches."""

from heapq import heappop, heappush

from neverjoin.masks import all_points, letter_moves, points_of
from neverjoin.webs import arrows_from


def lies_in(one, other):
    """Whether each stretch of a web is one of another web.

    Where the same text leads to a point of the one and a mask of the other
    one, each letter from the point has to lead on from the mask too.
    """
    moves = letter_moves(other)
    leading = arrows_from(one)
    waiting = [(other.points, point, all_points(other)) for point in range(one.points)]
    asked = [[] for _ in range(one.points)]
    # Few points can do no more than many, so those with the fewest go first and stand for the rest.
    while waiting:
        _, point, mask = heappop(waiting)
        if is_covered(asked[point], mask):
            continue
        asked[point].append(mask)
        led = dict(moves.listed(mask))
        for letter, end in leading[point]:
            if letter not in led:
                return False
            heappush(waiting, (len(points_of(led[letter])), end, led[letter]))
    return True


def is_covered(asked, mask):
    """Whether one of some masks has points of a mask alone."""
    for part in asked:
        if part & mask == part:
            return True
    return False


def are_like(one, other):
    """Whether two webs have the same stretches."""
    return lies_in(one, other) and lies_in(other, one)


def unlike_text(one, other):
    """The least of the shortest texts that are stretches of just one of two webs, None if there is none."""
    if are_like(one, other):
        return None
    first = letter_moves(one)
    second = letter_moves(other)
    start = (all_points(one), all_points(other))
    seen = {start: True}
    level = {start: ""}
    # Each level goes by ascending texts, so the first text that fits is the least one.
    while level:
        found = {}
        for masks in level:
            for letter, after in both_steps(first, second, masks):
                if not after[0] or not after[1]:
                    return level[masks] + letter
                if after not in seen:
                    seen[after] = True
                    found[after] = level[masks] + letter
        level = found
    return None


def both_steps(first, second, masks):
    """The list of pairs (letter, masks), ascending, of the letters that lead somewhere in one web at least."""
    one = dict(first.listed(masks[0]))
    other = dict(second.listed(masks[1]))
    return [(letter, (one.get(letter, 0), other.get(letter, 0))) for letter in sorted({**one, **other})]
