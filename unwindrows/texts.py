"""Texts of CODEs and TABLEs: a line for each INSTRUCTION and for each row."""

from unwindrows.codes import FORMS, is_basis, is_name, is_register, need_code
from unwindrows.errors import BadText
from unwindrows.rules import ITEMS
from unwindrows.tables import need_table

MOST_DIGITS = 4
DIGITS = "0123456789"


def _line(parts):
    """The line with these strings and integers as its words."""
    return " ".join([str(part) for part in parts])


def code_text(code):
    """The text of a CODE."""
    need_code(code)
    return "\n".join([_line(instruction) for instruction in code])


def _row_line(row):
    """The line of a row of a TABLE."""
    place, finding, sites = row
    found = ("none",) if finding is None else finding
    # The last part of a WHERE is its K, its R, or "lost".
    return _line([place, *found, *[where[-1] for where in sites]])


def table_text(table):
    """The text of a TABLE."""
    need_table(table)
    return "\n".join([_row_line(row) for row in table])


def _is_integer(word):
    """Whether a word is an integer by its form."""
    digits = word[1:] if word.startswith("-") else word
    if not 1 <= len(digits) <= MOST_DIGITS or not all([digit in DIGITS for digit in digits]):
        return False
    return word == "0" or digits[0] != "0"


def _fits(word, kind):
    """Whether a word is of a kind by its form: one of FORMS, or of those of a line of a TABLE."""
    if kind == "R":
        return is_register(word)
    if kind == "B":
        return is_basis(word)
    if kind == "NAME":
        return is_name(word)
    if kind == "WORD":
        return word in FORMS
    if kind == "FINDING":
        return word == "none" or is_basis(word)
    if kind == "WHERE":
        return word == "lost" or is_register(word) or _is_integer(word)
    return _is_integer(word)


def _code_kinds(words):
    """The kinds of the words of a line of a CODE that has these words."""
    return ("WORD", *FORMS.get(words[0], ()))


def _table_kinds(words):
    """The kinds of the words of a line of a TABLE that has these words."""
    offset = () if words[1:2] == ["none"] else ("N",)
    return ("N", "FINDING", *offset, *["WHERE" for _ in ITEMS])


def _wrong_word(words, kinds):
    """The number of the first word of a line that cannot stand there, or None."""
    for index, word in enumerate(words):
        if index == len(kinds) or not _fits(word, kinds[index]):
            return index + 1
    return len(words) + 1 if len(words) < len(kinds) else None


def _read(text, kinds_of):
    """The lines of a text as lists of strings and integers; kinds_of tells the kinds of the words of a line."""
    if not isinstance(text, str):
        raise BadText(0, 0)
    lines = []
    for index, line in enumerate(text.split("\n")):
        words = line.split(" ")
        number = 0 if "" in words else _wrong_word(words, kinds_of(words))
        if number is not None:
            raise BadText(index + 1, number)
        lines.append([int(word) if _is_integer(word) else word for word in words])
    return lines


def read_code(text):
    """The CODE that has a text."""
    return need_code(tuple([tuple(line) for line in _read(text, _code_kinds)]))


def _where(part):
    """The WHERE that has a word, or an integer, in a line of a TABLE."""
    if part == "lost":
        return ("lost",)
    return ("in", part) if isinstance(part, str) else ("word", part)


def _row(line):
    """The row that has a line."""
    place, *others = line
    sites = tuple([_where(part) for part in others[-len(ITEMS):]])
    finding = None if others[0] == "none" else tuple(others[:2])
    return (place, finding, sites)


def read_table(text):
    """The TABLE that has a text."""
    return need_table(tuple([_row(line) for line in _read(text, _table_kinds)]))
