"""Books of functions, and the TABLEs that are found for them."""

from unwindrows.codes import is_name, need_code
from unwindrows.errors import BadItem, Missing
from unwindrows.tables import least_table


class Trial:
    """A trial of a Book, for one with statement: behind its block the Book has again what it had."""

    def __init__(self, book):
        self._book = book
        self._codes = {}
        self._tables = {}

    def __enter__(self):
        self._codes = dict(self._book._codes)
        self._tables = dict(self._book._tables)
        return self._book

    def __exit__(self, kind, value, trace):
        self._book._codes = self._codes
        self._book._tables = self._tables


class Book:
    """Functions with names, each with the TABLE that was found for it, if it was asked for."""

    def __init__(self):
        self._codes = {}
        self._tables = {}
        self._found = 0

    def __getitem__(self, at):
        if at not in self:
            raise Missing(at)
        return self._codes[at]

    def __setitem__(self, at, worth):
        if not is_name(at):
            raise BadItem(at)
        need_code(worth)
        # The TABLE of an equal CODE is kept: it is not another one.
        if self._codes.get(at) != worth:
            self._tables.pop(at, None)
        self._codes[at] = worth

    def __contains__(self, x):
        # The question for a NAME comes first: other things may not even be keys.
        return is_name(x) and x in self._codes

    def __iter__(self):
        raise TypeError("Books are not iterated over")

    def __len__(self):
        return len(self._codes)

    def __eq__(self, other):
        return isinstance(other, Book) and self._codes == other._codes

    def forget(self, name):
        """Forgets a function, and its TABLE."""
        if name not in self:
            raise Missing(name)
        del self._codes[name]
        self._tables.pop(name, None)

    def names(self):
        """The ascending tuple of the names of the functions."""
        return tuple(sorted(self._codes))

    def table(self, name):
        """The TABLE of a function, found when it is first asked for."""
        code = self[name]
        if name not in self._tables:
            self._tables[name] = least_table(code)
            self._found += 1
        return self._tables[name]

    def found(self):
        """How often a TABLE has been found."""
        return self._found

    def trial(self):
        """A trial of the Book."""
        return Trial(self)


def under(manager, deed):
    """What a deed returns for what a manager gives, within a with statement over this manager."""
    with manager as one:
        return deed(one)
