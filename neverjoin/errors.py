"""Every error of the package, those that other modules raise."""


class JoinError(ValueError):
    """What all errors of the package are."""

    def __init__(self):
        # Errors without fields are made with nothing, so they take nothing.
        pass


class BadWeb(JoinError):
    """Points and arrows make no web; part tells which of it is wrong first."""

    def __init__(self, part):
        self.part = part


class NoStretch(JoinError):
    """A text is no stretch of the web."""


class NoNumber(JoinError):
    """A number is none of those that are asked for."""


class TooMany(JoinError):
    """There are more things than the most that is allowed."""

    def __init__(self, most):
        self.most = most


class TooLong(JoinError):
    """A text has more letters than the most that is allowed."""

    def __init__(self, most):
        self.most = most


class NoLetters(JoinError):
    """A text does not consist of unlike letters as told."""


class NoText(JoinError):
    """A thing is no text as told."""


class NoNames(JoinError):
    """A dict does not give each letter of the web a name of its own."""


class NoTexts(JoinError):
    """A thing is no list or tuple of texts as told."""


class BadBook(JoinError):
    """Words make no book; part tells which of it is wrong first."""

    def __init__(self, part):
        self.part = part


class NoPlace(JoinError):
    """A number is no place of the stretch."""


class NotFull(JoinError):
    """A book is not full."""


class NoRing(JoinError):
    """A text is no ring of the web."""


class NoLot(JoinError):
    """A thing is no lot of the web."""


class OneWay(JoinError):
    """A book has just one way."""


class NoExchange(JoinError):
    """There is no such exchange of the book."""


class NoPath(JoinError):
    """Two books have unlike webs or ways."""


class NoWeb(JoinError):
    """A web is not as told."""


class NoChances(JoinError):
    """A thing is no tuple of chances for the web."""


class NoPrices(JoinError):
    """A thing does not give each letter of the web its price."""


class NoPlaces(JoinError):
    """A thing is no list or tuple of places of the stretch."""


class NoJumps(JoinError):
    """A thing is no tuple of jumps for the text."""


class NoAddress(JoinError):
    """A thing is no address."""


class NoRow(JoinError):
    """A stretch is not put together of words."""


class NotNear(JoinError):
    """Two stretches are not unlike at just one letter."""


class NoLetter(JoinError):
    """A thing is no letter with which the text goes on."""


class NoWord(JoinError):
    """A text cannot be put to the lot or taken out of it."""


class NothingDone(JoinError):
    """There is nothing to take back."""


class BadText(JoinError):
    """A text cannot be read; line tells where, counted from 1."""

    def __init__(self, line):
        self.line = line


class NoLine(JoinError):
    """A line has none of the forms of the desk."""


class NoName(JoinError):
    """There is no book of this name."""

    def __init__(self, name):
        self.name = name
