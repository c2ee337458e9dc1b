"""What kind of thing an argument is: nothing here fails, whatever it is shown."""

from neverjoin.errors import NoNumber

MOST_FIGURES = 9


def is_integer(thing):
    """Whether a thing is an integer; flags are none."""
    return isinstance(thing, int) and not isinstance(thing, bool)


def is_number(least, most, thing):
    """Whether a thing is an integer from least to most."""
    return is_integer(thing) and least <= thing <= most


def ask_number(least, most, thing):
    """Raise NoNumber unless a thing is an integer from least to most."""
    if not is_number(least, most, thing):
        raise NoNumber()


def is_text(thing):
    """Whether a thing is a string of letters, perhaps empty."""
    return isinstance(thing, str) and all(["a" <= sign <= "z" for sign in thing])


def is_long_text(least, most, thing):
    """Whether a thing is a text of least to most letters."""
    return is_text(thing) and least <= len(thing) <= most


def is_letter(thing):
    """Whether a thing is a string of one letter."""
    return is_long_text(1, 1, thing)


def is_decimal(string):
    """Whether a string is a number in few figures, without a sign and needless zeros."""
    if not 1 <= len(string) <= MOST_FIGURES or not all(["0" <= sign <= "9" for sign in string]):
        return False
    return string == "0" or string[0] != "0"


def is_row(thing):
    """Whether a thing is a list or tuple."""
    return isinstance(thing, (list, tuple))


def are_ascending(row):
    """Whether each item of a row of one kind is above the one ahead of it."""
    return all([one < other for one, other in zip(row, row[1:])])
