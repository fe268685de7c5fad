"""The errors of the package.

No class hands a message on: each keeps the values that it is made with, of
whatever kind they are, and Python shows these as they are.
"""


class UnwindError(ValueError):
    """Something that was passed cannot be used. All of the package but Missing is under it."""


class BadCode(UnwindError):
    """Not a CODE: place is None, or the index of the first item that is no INSTRUCTION."""

    def __init__(self, place):
        self.place = place


class BadPath(UnwindError):
    """Not a PATH: index is None, or that of the first item at which no run can stop."""

    def __init__(self, index):
        self.index = index


class BadPlace(UnwindError):
    """Not a PLACE of the code: value is what was passed."""

    def __init__(self, value):
        self.value = value


class BadItem(UnwindError):
    """Not an ITEM, or not a NAME: value is what was passed."""

    def __init__(self, value):
        self.value = value


class BadTable(UnwindError):
    """Not a TABLE: row is None, or the index of the first item that cannot stand there."""

    def __init__(self, row):
        self.row = row


class BadPaper(UnwindError):
    """Not a CLASH: number is None, the index of the first bad PATH, or -1."""

    def __init__(self, number):
        self.number = number


class BadScript(UnwindError):
    """Not a SCRIPT: index is None, or that of the first GROUP that is none or cannot be done."""

    def __init__(self, index):
        self.index = index


class BadHouse(UnwindError):
    """Not a HOUSE: place is (), (K,) or (K, I), where the first fault is."""

    def __init__(self, place):
        self.place = place


class BadText(UnwindError):
    """Not a text: line and word are numbered from 1, or 0."""

    def __init__(self, line, word):
        self.line = line
        self.word = word


class TooMany(UnwindError):
    """A CODE with more STOPs than most."""

    def __init__(self, most):
        self.most = most


class NeverThere(UnwindError):
    """No run stops at place."""

    def __init__(self, place):
        self.place = place


class Missing(KeyError):
    """There is no function with this name."""

    def __init__(self, name):
        self.name = name
