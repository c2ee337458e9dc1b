"""Chances on the arrows of a web: the shares of its points, and how often texts come."""

from neverjoin.errors import NoChances
from neverjoin.kinds import is_number
from neverjoin.quotients import NOTHING, WHOLE, is_lowest, lowest, over, plus, sum_of, times
from neverjoin.webs import end_mask

HIGHEST_BOTTOM = 1000


def ask_chances(web, thing):
    """Raise NoChances unless a thing has a chance for each arrow, those from each point together 1."""
    if not isinstance(thing, tuple) or len(thing) != len(web.arrows):
        raise NoChances()
    if not all([is_chance(item) for item in thing]):
        raise NoChances()
    sums = [NOTHING] * web.points
    for (begin, _, _), part in zip(web.arrows, thing):
        sums[begin] = plus(sums[begin], part)
    if not all([whole == WHOLE for whole in sums]):
        raise NoChances()


def is_chance(thing):
    """Whether a thing is a fraction above 0, up to 1, with a bottom that is not too high."""
    if not isinstance(thing, tuple) or len(thing) != 2:
        return False
    top, bottom = thing
    return is_number(1, HIGHEST_BOTTOM, bottom) and is_number(1, bottom, top) and is_lowest(top, bottom)


def shares(web, chances):
    """The tuple of the shares of the points."""
    ask_chances(web, chances)
    return tuple(point_shares(web, chances))


def point_shares(web, chances):
    """The list of the shares of the points, for what are chances.

    Points are left out one after another, such that the others keep their
    shares to one another; then each gets what the others lead to it.
    """
    onward = flows(web, chances)
    backward = led_from(onward)
    waiting = {point: True for point in range(web.points)}
    left = []
    while len(waiting) > 1:
        point = easiest(waiting, onward, backward)
        del waiting[point]
        left.append((point, leave_out(point, onward, backward)))
    found = {point: WHOLE for point in waiting}
    for point, sources in reversed(left):
        found[point] = sum_of([times(found[begin], part) for begin, part in sources])
    whole = sum_of(list(found.values()))
    return [over(found[point], whole) for point in range(web.points)]


def flows(web, chances):
    """The list that has for each point the dict from the other points to the chance that an arrow leads there."""
    onward = [{} for _ in range(web.points)]
    for (begin, _, end), part in zip(web.arrows, chances):
        if begin != end:
            onward[begin][end] = plus(onward[begin].get(end, NOTHING), part)
    return onward


def led_from(onward):
    """The list that has for each point the dict of True for the points from which one is led there."""
    backward = [{} for _ in onward]
    for begin, row in enumerate(onward):
        for end in row:
            backward[end][begin] = True
    return backward


def easiest(waiting, onward, backward):
    """The point that is left out with the fewest pairs of points to be joined past it."""
    return min([(len(onward[point]) * len(backward[point]), point) for point in waiting])[1]


def leave_out(point, onward, backward):
    """Join all points past a point; the list of pairs (begin, part): so much of the share of begin comes to it."""
    leading = dict(onward[point])
    leaving = sum_of(list(leading.values()))
    sources = [(begin, over(onward[begin][point], leaving)) for begin in backward[point]]
    for begin, part in sources:
        del onward[begin][point]
        for end, further in leading.items():
            if end != begin:
                onward[begin][end] = plus(onward[begin].get(end, NOTHING), times(part, further))
                backward[end][begin] = True
    for end in leading:
        del backward[end][point]
    return sources


def chance(web, chances, text):
    """The sum, over all walks with a text, of the share where it begins and all chances of its arrows, multiplied."""
    ask_chances(web, chances)
    end_mask(web, text)
    return chance_of(letter_flows(web, chances), point_shares(web, chances), text)


def letter_flows(web, chances):
    """The dict from each letter to the list of the triples (point, point, chance) of its arrows."""
    found = {}
    for (begin, letter, end), part in zip(web.arrows, chances):
        found.setdefault(letter, []).append((begin, end, part))
    return found


def chance_of(flowing, start, text):
    """The chance of a text, from the shares of the points where it begins."""
    held = {point: share for point, share in enumerate(start)}
    for letter in text:
        coming = {}
        for begin, end, part in flowing[letter]:
            if begin in held:
                coming[end] = plus(coming.get(end, NOTHING), times(held[begin], part))
        held = coming
    return sum_of(list(held.values()))


def mean(book, chances):
    """The pair of the sum of the chances of all words, and of these multiplied by the letters of the words."""
    ask_chances(book.web, chances)
    flowing = letter_flows(book.web, chances)
    start = point_shares(book.web, chances)
    parts = [(chance_of(flowing, start, word), len(word)) for word in book.words]
    return (sum_of([part for part, _ in parts]), sum_of([lowest(part[0] * size, part[1]) for part, size in parts]))
