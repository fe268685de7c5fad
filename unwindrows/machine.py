"""What INSTRUCTIONs do to the stack pointer, the registers and the words."""

from unwindrows.codes import MOST_WORDS, REGISTERS

ANY = ("any",)
HOME = ("back", "", 0)


class State:
    """Where a run is: at first at the beginning of the run of one function.

    The words that hold ("any",) have no key in words, so that equal states
    have equal dicts.
    """

    def __init__(self):
        self.number = 0
        self.base = 0
        self.back = HOME
        self.place = 0
        self.sp = 0
        self.held = {name: ("first", name) for name in REGISTERS}
        self.words = {0: HOME}


def stop_of(state):
    """The STOP at which a state is."""
    values = tuple([state.held[name] for name in REGISTERS])
    return (state.place, state.sp, values, tuple(sorted(state.words.items())))


def state_at(stop):
    """A state of the run of one function that is at a STOP."""
    place, sp, values, words = stop
    state = State()
    state.place = place
    state.sp = sp
    state.held = dict(zip(REGISTERS, values))
    state.words = dict(words)
    return state


def _in_bounds(state, at):
    """Whether word at is one to which sp may point, and which may be stored or loaded."""
    return state.base - MOST_WORDS <= at <= state.base


def _put(state, at, value):
    """Lets word at hold a VALUE."""
    if value == ANY:
        state.words.pop(at, None)
    else:
        state.words[at] = value


def _address(state, name):
    """The number of the word whose address a register holds, or None."""
    value = state.held[name]
    # Addresses that other calls made are of no use in this one.
    if value[0] == "word" and value[1] == state.number:
        return value[2]
    return None


def _word_for(state, basis, offset):
    """The number of the word that store and load mean, or None if that is wild."""
    start = state.sp if basis == "sp" else _address(state, basis)
    if start is None or not _in_bounds(state, start + offset):
        return None
    return start + offset


def _move_sp(state, sp):
    """Moves sp, or returns the word of the break."""
    if not _in_bounds(state, sp):
        return "sp"
    state.sp = sp
    return None


def _push(state, instruction):
    _, source = instruction
    broken = _move_sp(state, state.sp - 1)
    if broken is None:
        _put(state, state.sp, state.held[source])
    return broken


def _pop(state, instruction):
    _, target = instruction
    value = state.words.get(state.sp, ANY)
    broken = _move_sp(state, state.sp + 1)
    if broken is None:
        state.held[target] = value
    return broken


def _grow(state, instruction):
    _, many = instruction
    return _move_sp(state, state.sp - many)


def _shrink(state, instruction):
    _, many = instruction
    return _move_sp(state, state.sp + many)


def _move(state, instruction):
    _, target, source = instruction
    state.held[target] = state.held[source]
    return None


def _point(state, instruction):
    _, target, offset = instruction
    state.held[target] = ("word", state.number, state.sp + offset)
    return None


def _setsp(state, instruction):
    _, source, offset = instruction
    start = _address(state, source)
    if start is None:
        return "wild"
    return _move_sp(state, start + offset)


def _work(state, instruction):
    _, target = instruction
    state.held[target] = ANY
    return None


def _store(state, instruction):
    _, basis, offset, source = instruction
    at = _word_for(state, basis, offset)
    if at is None:
        return "wild"
    _put(state, at, state.held[source])
    return None


def _load(state, instruction):
    _, target, basis, offset = instruction
    at = _word_for(state, basis, offset)
    if at is None:
        return "wild"
    state.held[target] = state.words.get(at, ANY)
    return None


def lose(state):
    """What a call loses, as it is seen by the caller."""
    for name in ("x", "y"):
        state.held[name] = ANY
    state.words = {at: value for at, value in state.words.items() if at >= state.sp}


def _call(state, instruction):
    # The NAME tells nothing here: no other function is known in a run of one.
    lose(state)
    return None


def _leave(state, instruction):
    if state.sp != state.base or state.words.get(state.base, ANY) != state.back:
        return "return"
    return None


def _stay(state, instruction):
    return None


ACTIONS = {
    "push": _push,
    "pop": _pop,
    "grow": _grow,
    "shrink": _shrink,
    "move": _move,
    "point": _point,
    "setsp": _setsp,
    "work": _work,
    "store": _store,
    "load": _load,
    "call": _call,
    "jump": _stay,
    "branch": _stay,
    "return": _leave,
}


def _places_behind(code, place):
    """The ascending PLACEs to which an INSTRUCTION leads; len(code) is behind the last one."""
    instruction = code[place]
    if instruction[0] == "return":
        return ()
    if instruction[0] == "jump":
        return (instruction[1],)
    if instruction[0] == "branch":
        return tuple(sorted({instruction[1], place + 1}))
    return (place + 1,)


def advance(code, state):
    """Does the INSTRUCTION at which a state is, and tells what can be next.

    Returns a pair: the ascending PLACEs at which the run can stop next, and
    the words with which it can break. The PLACE of the state stays, for its
    holder to choose.
    """
    instruction = code[state.place]
    action = ACTIONS[instruction[0]]
    broken = action(state, instruction)
    if broken is not None:
        return (), (broken,)
    places = _places_behind(code, state.place)
    if len(code) in places:
        return places[:-1], ("end",)
    return places, ()
