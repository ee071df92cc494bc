"""The errors: all directly beneath SaidError, each with its arguments as attributes."""


class SaidError(ValueError):
    """What this package raises."""


class BadQuestion(SaidError):
    """What was handed in is no question; `place` is its first wrong place."""

    def __init__(self, place):
        self.place = place


class BadFormula(SaidError):
    """What was handed in is no formula; `place` is the path to its first wrong thing."""

    def __init__(self, place):
        self.place = place


class BadTalk(SaidError):
    """What was handed in is no talk; `place` is the path to its first wrong thing."""

    def __init__(self, place):
        self.place = place


class BadTable(SaidError):
    """What was handed in is no table; `place` is its first wrong place."""

    def __init__(self, place):
        self.place = place


class BadGrid(SaidError):
    """What was handed in is no grid; `place` is its first wrong place."""

    def __init__(self, place):
        self.place = place


class BadTree(SaidError):
    """What was handed in is no tree of asks; `place` is the path to its first wrong thing."""

    def __init__(self, place):
        self.place = place


class BadBook(SaidError):
    """What was handed in is no such book; `value` is it."""

    def __init__(self, value):
        self.value = value


class BadText(SaidError):
    """No text of this form begins so; `line` and `word` tell where, both from 0."""

    def __init__(self, line, word):
        self.line = line
        self.word = word


class BadDeed(SaidError):
    """What was handed in is no deed or state; `place` is its first wrong place."""

    def __init__(self, place):
        self.place = place


class BadParameter(SaidError):
    """A parameter is not what it must be; `value` is it."""

    def __init__(self, value):
        self.value = value


class NoTalk(SaidError):
    """No talk tells the question; `pair` is the first pair that no sign parts."""

    def __init__(self, pair):
        self.pair = pair


class TooGreat(SaidError):
    """A told number is greater than `most`."""

    def __init__(self, most):
        self.most = most


class NoRow(SaidError):
    """There is nothing to take back."""

    def __init__(self):
        pass
