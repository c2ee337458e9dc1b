"""Webs made of letters, texts and other webs."""

from neverjoin.errors import NoLetters, NoNames, NoText, NoTexts, TooMany
from neverjoin.graphs import all_joined, lasting
from neverjoin.kinds import are_ascending, is_letter, is_long_text, is_row
from neverjoin.webs import Web, web_of, wide_web

MOST_LETTERS = 12
MOST_TEXTS = 20
LONGEST_LEFT_OUT = 6
LONGEST_ROW = 20
MOST_ENDINGS = 2000


def ask_letters(thing):
    """Raise NoLetters unless a thing is a text of few unlike letters, ascending."""
    if not is_long_text(1, MOST_LETTERS, thing) or not are_ascending(thing):
        raise NoLetters()


def free_web(letters):
    """The web of all texts over some letters."""
    ask_letters(letters)
    return Web(1, tuple([(0, letter, 0) for letter in letters]))


def ring_web(text):
    """The web that goes round a text."""
    if not is_long_text(1, MOST_LETTERS, text):
        raise NoText()
    size = len(text)
    return Web(size, tuple([(point, letter, (point + 1) % size) for point, letter in enumerate(text)]))


def turned(web):
    """The web with each arrow led the other way."""
    return wide_web(web.points, [(end, letter, begin) for begin, letter, end in web.arrows])


def renamed(web, names):
    """The web with other letters."""
    if not are_names(web, names):
        raise NoNames()
    return wide_web(web.points, [(begin, names[letter], end) for begin, letter, end in web.arrows])


def are_names(web, thing):
    """Whether a thing is a dict from exactly the letters of a web to unlike letters."""
    if not isinstance(thing, dict) or len(thing) != len(web.onward):
        return False
    # Keys of other kinds may be there, so what stands there is asked before it is looked up.
    if not all([is_letter(key) and is_letter(thing[key]) for key in thing]):
        return False
    return all([key in web.onward for key in thing]) and len(set(list(thing.values()))) == len(thing)


def are_texts(least, most, longest, thing):
    """Whether a thing is a list or tuple of least to most texts, none empty, none longer than the longest."""
    if not is_row(thing) or not least <= len(thing) <= most:
        return False
    return all([is_long_text(1, longest, item) for item in thing])


def left_out(letters, texts):
    """A web of the endless texts over some letters in which none of some texts comes, None if there is none."""
    ask_letters(letters)
    if not are_texts(0, MOST_TEXTS, LONGEST_LEFT_OUT, texts):
        raise NoTexts()
    if not all([sign in letters for text in texts for sign in text]):
        raise NoTexts()
    if many_endings(letters, texts) > MOST_ENDINGS:
        raise TooMany(MOST_ENDINGS)
    steps = lasting(allowed_steps(letters, texts))
    if not steps or not all_joined([begin for begin, _, _ in steps], steps):
        return None
    return web_of(steps)


def many_endings(letters, texts):
    """How many texts the letters have of a length one less than the longest of some texts."""
    many = 1
    for _ in range(1, max([len(text) for text in texts], default=0)):
        many *= len(letters)
    return many


def allowed_steps(letters, texts):
    """The steps by letters that bring none of some texts to an end.

    A state is how much of one of the texts stands at the end of what was
    read, the most of it. So the letters behind tell the state ahead of them,
    and the endless texts are joined just as the states are.
    """
    heads = {text[:size]: True for text in texts for size in range(len(text))}
    heads[""] = True
    steps = []
    for head in heads:
        for letter in letters:
            if not any([(head + letter).endswith(text) for text in texts]):
                steps.append((head, letter, longest_ending(heads, head + letter)))
    return steps


def longest_ending(heads, text):
    """The longest text with which a text ends that is one of the heads."""
    return [text[start:] for start in range(len(text) + 1) if text[start:] in heads][0]


def rows_web(texts):
    """A web of the endless texts that are put together of some texts."""
    if not are_texts(1, MOST_TEXTS, LONGEST_ROW, texts):
        raise NoTexts()
    steps = {}
    for text in texts:
        for place in range(len(text)):
            head = text[:place + 1]
            if place + 1 < len(text):
                steps[(text[:place], text[place], head)] = True
            else:
                # The text is done, and the next one begins.
                steps[(text[:place], text[place], "")] = True
    return web_of(list(steps))
