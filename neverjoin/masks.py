"""Lots of points of a web as integers, masks: bit p of one stands for the point p.

A text leads from a lot of points to the lot of all points to which walks with
this text lead from there; it is no stretch exactly if no point is left.
"""


def all_points(web):
    """The mask of all points of a web."""
    return (1 << web.points) - 1


def points_of(mask):
    """The ascending tuple of the points of a mask."""
    return tuple([point for point in range(mask.bit_length()) if mask >> point & 1])


def moved(row, mask):
    """The mask of all points to which a row, with a mask for each point, leads from those of a mask."""
    found = 0
    while mask:
        lowest = mask & -mask
        found |= row[lowest.bit_length() - 1]
        mask -= lowest
    return found


def step(rows, mask, letter):
    """Where a letter leads from the points of a mask, by rows as a web keeps them."""
    row = rows.get(letter)
    if row is None:
        return 0
    return moved(row, mask)


def walked(web, mask, text):
    """Where a text leads from the points of a mask."""
    for letter in text:
        if not mask:
            return 0
        mask = step(web.onward, mask, letter)
    return mask


def begun(web, text):
    """The mask of the points at which walks with a text begin."""
    mask = all_points(web)
    for letter in text[::-1]:
        mask = step(web.backward, mask, letter)
    return mask


class Moves:
    """Where each of some ascending words leads in a web, worked out once for each lot of points."""

    def __init__(self, web, words):
        self.web = web
        self.words = words
        self.known = {}
        self.counted = {}

    def listed(self, mask):
        """All pairs (word, mask) of the words that lead somewhere from here, ascending by words."""
        found = self.known.get(mask)
        if found is None:
            led = [(word, walked(self.web, mask, word)) for word in self.words]
            found = [(word, after) for word, after in led if after]
            self.known[mask] = found
        return found

    def groups(self, mask):
        """All triples (letters, mask, many): so many words of so many letters lead there from here."""
        found = self.counted.get(mask)
        if found is None:
            counts = {}
            for word, after in self.listed(mask):
                counts[(len(word), after)] = counts.get((len(word), after), 0) + 1
            found = [(size, after, many) for (size, after), many in counts.items()]
            self.counted[mask] = found
        return found


def letter_moves(web):
    """The moves of a web by its single letters."""
    return Moves(web, tuple(web.onward))
