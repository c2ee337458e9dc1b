"""Lanes: how a ring, gone round endlessly, is cut in the ways of a full book."""

from neverjoin.errors import NoRing
from neverjoin.full import ask_full
from neverjoin.stretches import is_ring, rings


def by_sizes(words):
    """The list of pairs (size, dict of True for the words of so many letters), shorter ones first."""
    found = {size: {} for size in sorted(set([len(word) for word in words]))}
    for word in words:
        found[len(word)][word] = True
    return list(found.items())


def sizes_round(sized, ring):
    """The list of the numbers of letters of the words of a full book that begin at the places of a ring."""
    longest, _ = sized[-1]
    text = ring * (longest // len(ring) + 2)
    found = []
    for place in range(len(ring)):
        found += [size for size, words in sized if text[place:place + size] in words]
    return found


def ask_sizes(book, ring):
    """The list of these sizes: NotFull, then NoRing."""
    ask_full(book)
    if not is_ring(book.web, ring):
        raise NoRing()
    return sizes_round(by_sizes(book.words), ring)


def places_round(sizes):
    """The ascending list of the tuples of the places of each lane, in the order in which it comes to them."""
    found = []
    seen = {}
    for start in range(len(sizes)):
        places = []
        place = start
        while place not in seen:
            seen[place] = True
            places.append(place)
            place = (place + sizes[place]) % len(sizes)
        if places:
            found.append(tuple(places))
    return found


def lanes(book, ring):
    """The ascending list of the lanes of a ring, pairs (places, rounds)."""
    sizes = ask_sizes(book, ring)
    return [(places, sum([sizes[place] for place in places]) // len(sizes)) for places in places_round(sizes)]


def lane_words(book, ring):
    """The list of the tuples of the words of each lane."""
    sizes = ask_sizes(book, ring)
    text = ring * (max(sizes) // len(ring) + 2)
    return [tuple([text[place:place + sizes[place]] for place in places]) for places in places_round(sizes)]


def ages(sizes):
    """The ascending list of how many letters ago, at place 0, each way was cut last."""
    # The word of a last cut ends behind the place.
    return [age for age in range(max(sizes)) if sizes[-age % len(sizes)] > age]


def turned_round(sizes):
    """The tuple of the number that each way, numbered by its age, has one round later."""
    listed = ages(sizes)
    found = []
    for age in listed:
        place = -age
        while place + sizes[place % len(sizes)] <= len(sizes):
            place += sizes[place % len(sizes)]
        found.append(listed.index(len(sizes) - place))
    return tuple(found)


def turn(book, ring):
    """The tuple of the number that each way, numbered by its age at place 0, has one round later."""
    return turned_round(ask_sizes(book, ring))


def since(book, ring):
    """The ascending tuple of how many letters ago, at place 0, each way was cut last."""
    return tuple(ages(ask_sizes(book, ring)))


def turns(book, length):
    """The ascending list of the unlike turns of all rings of a length."""
    ask_full(book)
    sized = by_sizes(book.words)
    return sorted(set([turned_round(sizes_round(sized, ring)) for ring in rings(book.web, length)]))
