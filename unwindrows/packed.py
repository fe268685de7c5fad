"""States of runs of one function, each packed into one integer.

A state consists of slots of eight bits. The lowest one is the PLACE, the next
one is the depth, which is how far sp is below the base; then come the registers,
and then the words of the stack, from word 0 downward. What a register or a word
holds is told by a MARK: 0 for ("any",), 1 to 6 for ("first", R), 7 for the return
address, and 136 + A for the address of word A, A being from -128 to 64.

Packed states can be kept in dicts and compared slot by slot much faster than
STOPs, and a search meets many of them.
"""

from unwindrows.codes import MOST_WORDS

WIDTH = 8
SLOT = 255

# Where slots begin, in bits; the registers are in the order of REGISTERS.
DEPTH = 8
SHIFTS = {"p": 16, "q": 24, "r": 32, "s": 40, "x": 48, "y": 56}
WORDS = 64

MARKED = (
    ("any",), ("first", "p"), ("first", "q"), ("first", "r"), ("first", "s"), ("first", "x"), ("first", "y"),
    ("back", "", 0),
)
BACK = 7
LEAST_ADDRESS = 8
ADDRESS_OF_0 = 136

START = (1 << 16) + (2 << 24) + (3 << 32) + (4 << 40) + (5 << 48) + (6 << 56) + (7 << 64)
# All bits of the slots of p, q, r and s, of x and y, and of the depth and all registers.
PRESERVED_SLOTS = (1 << 48) - (1 << 16)
X_AND_Y = (1 << 64) - (1 << 48)
FINDING_SLOTS = (1 << 64) - (1 << 8)

# What an action returns instead of a state, and the words of these breaks.
NO_SP = -1
WILD = -2
NO_RETURN = -3
BREAKS = {-1: "sp", -2: "wild", -3: "return"}


def _put(state, shift, mark):
    """The state with another MARK in the slot at a shift."""
    return state ^ ((((state >> shift) & SLOT) ^ mark) << shift)


def _depth_for(state, basis, offset):
    """The depth of the word that store and load mean, or None if that is wild."""
    if basis == "sp":
        depth = ((state >> DEPTH) & SLOT) - offset
    else:
        mark = (state >> SHIFTS[basis]) & SLOT
        if mark < LEAST_ADDRESS:
            return None
        depth = ADDRESS_OF_0 - mark - offset
    return depth if 0 <= depth <= MOST_WORDS else None


def _push(state, instruction):
    _, source = instruction
    depth = ((state >> DEPTH) & SLOT) + 1
    if depth > MOST_WORDS:
        return NO_SP
    mark = (state >> SHIFTS[source]) & SLOT
    return _put(state, WORDS + WIDTH * depth, mark) + (1 << DEPTH)


def _pop(state, instruction):
    _, target = instruction
    depth = (state >> DEPTH) & SLOT
    if depth == 0:
        return NO_SP
    mark = (state >> (WORDS + WIDTH * depth)) & SLOT
    return _put(state, SHIFTS[target], mark) - (1 << DEPTH)


def _grow(state, instruction):
    _, many = instruction
    if ((state >> DEPTH) & SLOT) + many > MOST_WORDS:
        return NO_SP
    return state + (many << DEPTH)


def _shrink(state, instruction):
    _, many = instruction
    if ((state >> DEPTH) & SLOT) < many:
        return NO_SP
    return state - (many << DEPTH)


def _move(state, instruction):
    _, target, source = instruction
    return _put(state, SHIFTS[target], (state >> SHIFTS[source]) & SLOT)


def _point(state, instruction):
    _, target, offset = instruction
    return _put(state, SHIFTS[target], ADDRESS_OF_0 - ((state >> DEPTH) & SLOT) + offset)


def _setsp(state, instruction):
    _, source, offset = instruction
    mark = (state >> SHIFTS[source]) & SLOT
    if mark < LEAST_ADDRESS:
        return WILD
    depth = ADDRESS_OF_0 - mark - offset
    if not 0 <= depth <= MOST_WORDS:
        return NO_SP
    return _put(state, DEPTH, depth)


def _work(state, instruction):
    _, target = instruction
    return state & ~(SLOT << SHIFTS[target])


def _store(state, instruction):
    _, basis, offset, source = instruction
    depth = _depth_for(state, basis, offset)
    if depth is None:
        return WILD
    return _put(state, WORDS + WIDTH * depth, (state >> SHIFTS[source]) & SLOT)


def _load(state, instruction):
    _, target, basis, offset = instruction
    depth = _depth_for(state, basis, offset)
    if depth is None:
        return WILD
    return _put(state, SHIFTS[target], (state >> (WORDS + WIDTH * depth)) & SLOT)


def _call(state, instruction):
    # The NAME tells nothing here: no other function is known in a run of one.
    depth = (state >> DEPTH) & SLOT
    # The words below sp have the highest slots of all.
    return state & ~X_AND_Y & ((1 << (WORDS + WIDTH * (depth + 1))) - 1)


def _leave(state, instruction):
    if ((state >> DEPTH) & SLOT) != 0 or ((state >> WORDS) & SLOT) != BACK:
        return NO_RETURN
    return state


def _stay(state, instruction):
    return state


ACTIONS = {
    "push": _push,
    "pop": _pop,
    "grow": _grow,
    "shrink": _shrink,
    "move": _move,
    "point": _point,
    "setsp": _setsp,
    "work": _work,
    "store": _store,
    "load": _load,
    "call": _call,
    "jump": _stay,
    "branch": _stay,
    "return": _leave,
}


def _moves(code, place):
    """How far it is from a PLACE to those to which its INSTRUCTION leads, ascending."""
    instruction = code[place]
    if instruction[0] == "return":
        return ()
    if instruction[0] == "jump":
        return (instruction[1] - place,)
    if instruction[0] == "branch":
        return tuple(sorted({instruction[1] - place, 1}))
    return (1,)


def steps_of(code):
    """For each PLACE of a CODE a tuple: action, INSTRUCTION, moves within the CODE, and whether one leads out."""
    steps = []
    for place, instruction in enumerate(code):
        moves = _moves(code, place)
        within = tuple([move for move in moves if place + move < len(code)])
        steps.append((ACTIONS[instruction[0]], instruction, within, within != moves))
    return steps


def behind(steps, state):
    """The states that can be next behind a state, by ascending PLACEs."""
    action, instruction, moves, _ = steps[state & SLOT]
    after = action(state, instruction)
    return [after + move for move in moves] if after >= 0 else []


def breaks_at(steps, state):
    """The words with which the run can break at a state."""
    action, instruction, _, is_end = steps[state & SLOT]
    after = action(state, instruction)
    if after < 0:
        return (BREAKS[after],)
    return ("end",) if is_end else ()


def value_of(mark):
    """The VALUE that has a MARK."""
    return MARKED[mark] if mark < LEAST_ADDRESS else ("word", 0, mark - ADDRESS_OF_0)


def stop_of(state):
    """The STOP at which a state is."""
    values = tuple([value_of((state >> shift) & SLOT) for shift in SHIFTS.values()])
    words = []
    marks = state >> WORDS
    at = 0
    while marks:
        if marks & SLOT:
            words.append((at, value_of(marks & SLOT)))
        marks >>= WIDTH
        at -= 1
    return (state & SLOT, -((state >> DEPTH) & SLOT), values, tuple(words[::-1]))
