"""The stretches of a web by length and number, and its rings."""

from neverjoin.counting import count_rows, numbered_row, row_rank
from neverjoin.errors import NoNumber, TooLong, TooMany
from neverjoin.kinds import ask_number, is_integer, is_text
from neverjoin.masks import all_points, letter_moves, moved, walked
from neverjoin.webs import end_mask

LONGEST = 200
LONGEST_RING = 30
MOST_STRETCHES = 2000


def many_stretches(web, length):
    """The number of unlike stretches of a length."""
    ask_number(0, LONGEST, length)
    return count_rows(letter_moves(web), length)


def stretches(web, length):
    """The ascending list of the stretches of a length."""
    if many_stretches(web, length) > MOST_STRETCHES:
        raise TooMany(MOST_STRETCHES)
    moves = letter_moves(web)
    listed = [("", all_points(web))]
    for _ in range(length):
        listed = [(text + letter, after) for text, mask in listed for letter, after in moves.listed(mask)]
    return [text for text, _ in listed]


def stretch_at(web, length, number):
    """The stretch of a length with a number."""
    ask_number(0, LONGEST, length)
    if not is_integer(number):
        raise NoNumber()
    text = numbered_row(letter_moves(web), length, number)
    if text is None:
        raise NoNumber()
    return text


def number_of(web, text):
    """The number of a stretch among those of its length."""
    end_mask(web, text)
    if len(text) > LONGEST:
        raise TooLong(LONGEST)
    return row_rank(letter_moves(web), list(text))


def is_ring(web, thing):
    """Whether a thing is a text that can be put together with itself without end."""
    if not is_text(thing) or thing == "":
        return False
    mask = all_points(web)
    after = walked(web, mask, thing)
    # Each round leads to some of the points of the round ahead, so it comes to rest.
    while after != mask:
        mask = after
        after = walked(web, mask, thing)
    return mask != 0


def rings(web, length):
    """The ascending list of the rings of a length."""
    ask_number(1, LONGEST_RING, length)
    return [text for text in stretches(web, length) if is_ring(web, text)]


def round_rings(web, length):
    """The ascending list of the rings of a length that are below whatever else they are when begun elsewhere."""
    return [ring for ring in rings(web, length) if is_least_turn(ring)]


def is_least_turn(text):
    """Whether a text is less than itself begun at each other place, so that none of these is it again."""
    return all([text < text[place:] + text[:place] for place in range(1, len(text))])


def least_ring(web):
    """The least of the shortest rings."""
    level = longer_texts(web, [("", tuple([(point, 1 << point) for point in range(web.points)]))])
    while True:
        for text, led in level:
            if comes_round(web, led):
                return text
        level = longer_texts(web, level)


def longer_texts(web, level):
    """The list of pairs (text, led) of texts with a letter more.

    The tuple led tells by pairs (point, mask) where the text leads each point
    that it leads anywhere. Of texts that lead alike just the least is kept:
    what makes a ring of another one, put behind it, makes one of this one too.
    """
    found = {}
    for text, led in level:
        for letter in web.onward:
            row = web.onward[letter]
            moves = [(point, moved(row, mask)) for point, mask in led]
            onward = tuple([(point, mask) for point, mask in moves if mask])
            if onward and onward not in found:
                found[onward] = text + letter
    return [(found[led], led) for led in found]


def comes_round(web, led):
    """Whether a text that leads the points so can be put together with itself without end."""
    mask = all_points(web)
    after = round_once(led, mask)
    while after != mask:
        mask = after
        after = round_once(led, mask)
    return mask != 0


def round_once(led, mask):
    """The mask of all points to which those of a mask are led."""
    found = 0
    for point, after in led:
        if mask >> point & 1:
            found |= after
    return found
