"""Webs, and what stands ahead of and behind their stretches."""

from neverjoin.errors import BadWeb, NoStretch
from neverjoin.graphs import all_joined, led_back
from neverjoin.kinds import are_ascending, is_letter, is_number, is_text
from neverjoin.masks import all_points, begun, points_of, step, walked

MOST_POINTS = 12
MOST_ARROWS = 60


class Web:
    """Points and the arrows between them, whose letters tell which texts can come."""

    def __init__(self, points, arrows):
        part = wrong_part(points, arrows)
        if part is not None:
            raise BadWeb(part)
        self.lay(points, arrows)

    def lay(self, points, arrows):
        """Take points and ascending arrows that are known to be right, however many."""
        self.points = points
        self.arrows = arrows
        self.onward = letter_rows(points, arrows)
        self.backward = letter_rows(points, led_back(arrows))

    def __eq__(self, other):
        return isinstance(other, Web) and self.points == other.points and self.arrows == other.arrows


def wide_web(points, arrows):
    """A web of any size; who makes it sees to it that the rest is right."""
    web = Web(1, ((0, "a", 0),))
    web.lay(points, tuple(sorted(arrows)))
    return web


def web_of(steps):
    """The web of steps between states, which are numbered ascending as points."""
    states = sorted(set([begin for begin, _, _ in steps]))
    numbers = {state: number for number, state in enumerate(states)}
    return wide_web(len(states), [(numbers[begin], letter, numbers[end]) for begin, letter, end in steps])


def letter_rows(points, arrows):
    """The dict from each letter, ascending, to the list that has for each point the mask of where it leads."""
    rows = {letter: [0] * points for letter in sorted(set([letter for _, letter, _ in arrows]))}
    for begin, letter, end in arrows:
        rows[letter][begin] |= 1 << end
    return rows


def arrows_from(web):
    """The list that has for each point the pairs (letter, point) of the arrows from there."""
    found = [[] for _ in range(web.points)]
    for begin, letter, end in web.arrows:
        found[begin].append((letter, end))
    return found


def wrong_part(points, arrows):
    """The part that BadWeb tells of two things, None if they make a web."""
    if not is_number(1, MOST_POINTS, points):
        return "points"
    if not are_arrows(points, arrows):
        return "arrows"
    if not all_joined(list(range(points)), arrows):
        return "apart"
    return None


def are_arrows(points, thing):
    """Whether a thing is a strictly ascending tuple of arrows between so many points."""
    if not isinstance(thing, tuple) or not 1 <= len(thing) <= MOST_ARROWS:
        return False
    return all([is_arrow(points, item) for item in thing]) and are_ascending(thing)


def is_arrow(points, thing):
    """Whether a thing is a triple of a point, a letter and a point."""
    if not isinstance(thing, tuple) or len(thing) != 3:
        return False
    begin, letter, end = thing
    if not is_number(0, points - 1, begin) or not is_number(0, points - 1, end):
        return False
    return is_letter(letter)


def letters(web):
    """The ascending text of all letters of a web."""
    return "".join(sorted(web.onward))


def is_stretch(web, thing):
    """Whether a thing is the text of a walk."""
    return is_text(thing) and walked(web, all_points(web), thing) != 0


def end_mask(web, text):
    """The mask of the points to which walks with a text lead: NoStretch if there are none."""
    if not is_stretch(web, text):
        raise NoStretch()
    return walked(web, all_points(web), text)


def ends(web, text):
    """The ascending tuple of the points to which walks with a text lead."""
    return points_of(end_mask(web, text))


def leading(rows, mask):
    """The ascending text of the letters that lead somewhere from the points of a mask."""
    return "".join([letter for letter in sorted(rows) if step(rows, mask, letter)])


def after(web, text):
    """The ascending text of the letters with which behind it a text is a stretch."""
    return leading(web.onward, end_mask(web, text))


def before(web, text):
    """The ascending text of the letters with which ahead of it a text is a stretch."""
    end_mask(web, text)
    return leading(web.backward, begun(web, text))


def pairs(web, text):
    """The ascending list of the two letters between which a text is a stretch."""
    return [first + last for first in before(web, text) for last in after(web, first + text)]


def surplus(web, text):
    """The pairs of a text, less the letters after it and those before it, and 1 more."""
    return len(pairs(web, text)) - len(after(web, text)) - len(before(web, text)) + 1
