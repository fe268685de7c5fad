"""Runs of one function along PATHs."""

from unwindrows.codes import is_number, need_code
from unwindrows.errors import BadPath
from unwindrows.machine import State, advance, stop_of


def _walked(code, path):
    """The state at the end of a PATH of a CODE."""
    need_code(code)
    if not isinstance(path, tuple) or not path:
        raise BadPath(None)
    state = State()
    places = (0,)
    for index, item in enumerate(path):
        if index > 0:
            places, _ = advance(code, state)
        if not is_number(item) or item not in places:
            raise BadPath(index)
        state.place = item
    return state


def run(code, path):
    """The STOP to which a PATH leads."""
    return stop_of(_walked(code, path))


def following(code, path):
    """The ascending tuple of the PLACEs at which the run can stop behind a PATH."""
    places, _ = advance(code, _walked(code, path))
    return places


def breaking(code, path):
    """The ascending tuple of the words with which the run can break behind a PATH."""
    _, words = advance(code, _walked(code, path))
    return words
