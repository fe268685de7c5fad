"""Runs of one function along PATHs."""

from unwindrows.codes import is_between, is_number, need_code
from unwindrows.errors import BadPath
from unwindrows.packed import SLOT, START, behind, breaks_at, steps_of, stop_of


def walked(steps, path):
    """The state at the end of a PATH of the CODE that has these steps."""
    if not isinstance(path, tuple) or not path:
        raise BadPath(None)
    if not is_between(path[0], 0, 0):
        raise BadPath(0)
    state = START
    for index, item in enumerate(path[1:], start=1):
        place = state & SLOT
        action, instruction, moves, _ = steps[place]
        after = action(state, instruction)
        if after < 0 or not is_number(item) or item - place not in moves:
            raise BadPath(index)
        state = after + item - place
    return state


def run(code, path):
    """The STOP to which a PATH leads."""
    need_code(code)
    return stop_of(walked(steps_of(code), path))


def following(code, path):
    """The ascending tuple of the PLACEs at which the run can stop behind a PATH."""
    need_code(code)
    steps = steps_of(code)
    return tuple([state & SLOT for state in behind(steps, walked(steps, path))])


def breaking(code, path):
    """The ascending tuple of the words with which the run can break behind a PATH."""
    need_code(code)
    steps = steps_of(code)
    return breaks_at(steps, walked(steps, path))
