"""Rows: texts that are put together of words of which none begins another one.

Moves tell the words. Two such rows of a length stand in the order of the first
words in which they are unlike, so they are counted and numbered word by word.
"""

from neverjoin.masks import all_points


def reached_masks(moves, length):
    """The list that has for each place up to a length the dict of the masks to which rows lead there."""
    reach = [{} for _ in range(length + 1)]
    reach[0][all_points(moves.web)] = True
    for place in range(length):
        for mask in list(reach[place]):
            for size, after, _ in moves.groups(mask):
                if place + size <= length:
                    reach[place + size][after] = True
    return reach


def row_counts(moves, length):
    """The list that has for each place the dict from masks to how many rows lead from there to the length."""
    counts = [{} for _ in range(length + 1)]
    reach = reached_masks(moves, length)
    counts[length] = {mask: 1 for mask in reach[length]}
    for place in reversed(range(length)):
        for mask in reach[place]:
            many = 0
            for size, after, times in moves.groups(mask):
                if place + size <= length:
                    many += counts[place + size][after] * times
            counts[place][mask] = many
    return counts


def count_rows(moves, length):
    """How many rows of a length there are."""
    return row_counts(moves, length)[0][all_points(moves.web)]


def counted_moves(moves, counts, place, mask):
    """The list of triples (word, mask, many): so many rows go on with this word, which leads there."""
    found = []
    for word, after in moves.listed(mask):
        if place + len(word) < len(counts):
            found.append((word, after, counts[place + len(word)][after]))
    return found


def numbered_row(moves, length, number):
    """The row of a length with a number, None if there is none."""
    counts = row_counts(moves, length)
    mask = all_points(moves.web)
    if not 0 <= number < counts[0][mask]:
        return None
    text = ""
    while len(text) < length:
        for word, after, many in counted_moves(moves, counts, len(text), mask):
            if number < many:
                text += word
                mask = after
                break
            number -= many
    return text


def row_rank(moves, words):
    """The number of the row that is put together of some words among those of its length."""
    counts = row_counts(moves, sum([len(word) for word in words]))
    mask = all_points(moves.web)
    place = 0
    number = 0
    for chosen in words:
        listed = counted_moves(moves, counts, place, mask)
        number += sum([many for word, _, many in listed if word < chosen])
        mask = [after for word, after, _ in listed if word == chosen][0]
        place += len(chosen)
    return number
