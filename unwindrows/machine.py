"""What INSTRUCTIONs do in a process, where the stack goes on through many calls.

For runs of one function unwindrows.packed does the same, much faster: there is
just one call, so that all that a register or a word can hold fits into a few bits.
"""

from unwindrows.codes import MOST_WORDS, REGISTERS

ANY = ("any",)
HOME = ("back", "", 0)


class State:
    """What the call that runs can see: at first, at its beginning, call 0.

    The words that hold ("any",) have no key in words.
    """

    def __init__(self):
        self.number = 0
        self.base = 0
        self.back = HOME
        self.sp = 0
        self.held = {name: ("first", name) for name in REGISTERS}
        self.words = {0: HOME}


def _in_bounds(state, at):
    """Whether word at is one to which sp may point, and which may be stored or loaded."""
    return state.base - MOST_WORDS <= at <= state.base


def _put(state, at, value):
    """Lets word at hold a VALUE."""
    if value == ANY:
        state.words.pop(at, None)
    else:
        state.words[at] = value


def _address(state, name):
    """The number of the word whose address a register holds, or None."""
    value = state.held[name]
    # Addresses that other calls made are of no use in this one.
    if value[0] == "word" and value[1] == state.number:
        return value[2]
    return None


def _word_for(state, basis, offset):
    """The number of the word that store and load mean, or None if that is wild."""
    start = state.sp if basis == "sp" else _address(state, basis)
    if start is None or not _in_bounds(state, start + offset):
        return None
    return start + offset


def _move_sp(state, sp):
    """Moves sp, or returns the word of the break."""
    if not _in_bounds(state, sp):
        return "sp"
    state.sp = sp
    return None


def _push(state, instruction):
    _, source = instruction
    broken = _move_sp(state, state.sp - 1)
    if broken is None:
        _put(state, state.sp, state.held[source])
    return broken


def _pop(state, instruction):
    _, target = instruction
    value = state.words.get(state.sp, ANY)
    broken = _move_sp(state, state.sp + 1)
    if broken is None:
        state.held[target] = value
    return broken


def _grow(state, instruction):
    _, many = instruction
    return _move_sp(state, state.sp - many)


def _shrink(state, instruction):
    _, many = instruction
    return _move_sp(state, state.sp + many)


def _move(state, instruction):
    _, target, source = instruction
    state.held[target] = state.held[source]
    return None


def _point(state, instruction):
    _, target, offset = instruction
    state.held[target] = ("word", state.number, state.sp + offset)
    return None


def _setsp(state, instruction):
    _, source, offset = instruction
    start = _address(state, source)
    if start is None:
        return "wild"
    return _move_sp(state, start + offset)


def _work(state, instruction):
    _, target = instruction
    state.held[target] = ANY
    return None


def _store(state, instruction):
    _, basis, offset, source = instruction
    at = _word_for(state, basis, offset)
    if at is None:
        return "wild"
    _put(state, at, state.held[source])
    return None


def _load(state, instruction):
    _, target, basis, offset = instruction
    at = _word_for(state, basis, offset)
    if at is None:
        return "wild"
    state.held[target] = state.words.get(at, ANY)
    return None


def _lose(state):
    """What a call loses, as it is seen by the caller."""
    state.held["x"] = ANY
    state.held["y"] = ANY
    state.words = {at: value for at, value in state.words.items() if at >= state.sp}


def _call(state, instruction):
    # The NAME tells nothing here: this is a call of a function that is not known.
    _lose(state)
    return None


def _leave(state, instruction):
    if state.sp != state.base or state.words.get(state.base, ANY) != state.back:
        return "return"
    return None


def _stay(state, instruction):
    return None


ACTIONS = {
    "push": _push,
    "pop": _pop,
    "grow": _grow,
    "shrink": _shrink,
    "move": _move,
    "point": _point,
    "setsp": _setsp,
    "work": _work,
    "store": _store,
    "load": _load,
    "call": _call,
    "jump": _stay,
    "branch": _stay,
    "return": _leave,
}


def do(state, instruction):
    """Does an INSTRUCTION, but for where it goes on. Returns the word with which it breaks, or None."""
    action = ACTIONS[instruction[0]]
    return action(state, instruction)


def enter(state, back):
    """Begins a call of a function that is known, with its return address."""
    state.number += 1
    state.sp -= 1
    state.base = state.sp
    state.back = back
    state.words = {at: value for at, value in state.words.items() if at > state.base}
    state.words[state.base] = back


def resume(state, sp, base, back):
    """Goes on in the caller, behind the return of the call that runs, with what the caller had."""
    state.number -= 1
    state.sp = sp
    state.base = base
    state.back = back
    _lose(state)
