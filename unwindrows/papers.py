"""CLASHes: certificates that nothing tells the base, or an ITEM, at all STOPs at a PLACE."""

from unwindrows.codes import need_code, need_place
from unwindrows.errors import BadItem, BadPaper, BadPath
from unwindrows.packed import DEPTH, FINDING_SLOTS, LEAST_ADDRESS, SHIFTS, SLOT, WIDTH, steps_of
from unwindrows.rules import MARKS, PARTS, common_facts, states_at
from unwindrows.runs import walked
from unwindrows.states import path_to, search


def _need_part(thing):
    """The thing itself, if it is "base" or an ITEM."""
    if not isinstance(thing, str) or thing not in PARTS:
        raise BadItem(thing)
    return thing


def _is_told(states, part):
    """Whether a FINDING or a WHERE holds for a part at all of some states, at least one."""
    return part in [kind for kind, _ in common_facts(states)]


def _base_clues(state):
    """The CLUEs of the FINDINGs that hold at a state."""
    clues = [(DEPTH, (state >> DEPTH) & SLOT)]
    for shift in SHIFTS.values():
        mark = (state >> shift) & SLOT
        if mark >= LEAST_ADDRESS:
            clues.append((shift, mark))
    return tuple(clues)


def _unlike(states):
    """A dict from the unlike tuples of CLUEs to the first states that have them."""
    first = {}
    # The words of the stack do not matter, and telling the others apart is quick.
    for state in states:
        first.setdefault(state & FINDING_SLOTS, state)
    unlike = {}
    for state in first.values():
        unlike.setdefault(_base_clues(state), state)
    return unlike


def _holders(sets):
    """A dict from CLUEs to integers: the bits of the indexes of those sets that contain it."""
    holders = {}
    for index, clues in enumerate(sets):
        for clue in clues:
            holders[clue] = holders.get(clue, 0) | (1 << index)
    return holders


def _groups(clues, holders, everyone):
    """All sets, grouped by which of some CLUEs they contain.

    A group is a pair of integers: the bits of those CLUEs, and of the sets.
    """
    groups = [(0, everyone)]
    for k, clue in enumerate(clues):
        split = []
        for contained, members in groups:
            split.append((contained | (1 << k), members & holders[clue]))
            split.append((contained, members & ~holders[clue]))
        groups = [(contained, members) for contained, members in split if members]
    return groups


def _fewest_beside(clues, groups, most):
    """The indexes of as few sets as possible, up to most, that do not have one of the CLUEs in common; or None."""
    reached = {(1 << len(clues)) - 1: ()}
    for _ in range(most):
        further = {}
        for common, chosen in reached.items():
            for contained, members in groups:
                # The index of the lowest bit stands for all members of the group.
                index = (members & -members).bit_length() - 1
                further.setdefault(common & contained, (*chosen, index))
        if 0 in further:
            return further[0]
        reached = further
    return None


def _commonest(sets):
    """The CLUE that most of the sets contain."""
    counts = {}
    for clues in sets:
        for clue in clues:
            counts[clue] = counts.get(clue, 0) + 1
    return max(list(counts), key=lambda clue: counts[clue])


def _fewest(states):
    """As few of some states as possible at which no FINDING holds, if none holds at all of them."""
    unlike = _unlike(states)
    sets = list(unlike)
    holders = _holders(sets)
    everyone = (1 << len(sets)) - 1
    # One of the sets that lack a CLUE is needed, whichever CLUE it is: few lack the commonest one.
    commonest = _commonest(sets)
    best = ()
    for k in [index for index, clues in enumerate(sets) if commonest not in clues]:
        most = len(best) - 2 if best else len(sets[k])
        beside = _fewest_beside(sets[k], _groups(sets[k], holders, everyone), most)
        if beside is not None:
            best = (k, *beside)
        # One state alone is never enough, for sp always finds the base there.
        if len(best) == 2:
            break
    return [unlike[sets[k]] for k in best]


def _slots_with(state, mark):
    """All bits of those slots of a state, of registers and words, that hold a MARK."""
    slots = 0
    for shift in range(SHIFTS["p"], state.bit_length(), WIDTH):
        if (state >> shift) & SLOT == mark:
            slots |= SLOT << shift
    return slots


def _common(numbers):
    """The bits that some integers have in common."""
    common = -1
    for number in numbers:
        common &= number
    return common


def _lean(states, mark):
    """Some of these states, none too many, that do not hold a MARK in one slot, if all of them do not."""
    first, *others = states
    common = _slots_with(first, mark)
    slots = {first: common}
    for state in others:
        # Only where the state is unlike the first one it can lack the MARK.
        if (state ^ first) & common:
            slots[state] = _slots_with(state, mark)
            common &= slots[state]
    needed = list(slots)
    for state in slots:
        rest = [other for other in needed if other != state]
        if _common([slots[other] for other in rest]) == 0:
            needed = rest
    return needed


def clash(code, place, part):
    """A CLASH for "base" or an ITEM at a PLACE, or None if something holds at all STOPs there."""
    need_code(code)
    need_place(place, len(code))
    _need_part(part)
    found = search(steps_of(code))
    states = states_at(found, place)
    if _is_told(states, part):
        return None
    chosen = _fewest(states) if part == "base" else _lean(states, MARKS[part])
    return tuple(sorted([path_to(found, state) for state in chosen]))


def _state_behind(steps, path):
    """The state at the end of a PATH, or None for what is not a PATH."""
    try:
        return walked(steps, path)
    except BadPath:
        return None


def check_clash(code, place, part, paths):
    """True if a thing is a CLASH for "base" or an ITEM at a PLACE."""
    need_code(code)
    need_place(place, len(code))
    _need_part(part)
    if not isinstance(paths, tuple):
        raise BadPaper(None)
    steps = steps_of(code)
    states = []
    ahead = ()
    for number, path in enumerate(paths):
        state = _state_behind(steps, path)
        if state is None or state & SLOT != place or path <= ahead:
            raise BadPaper(number)
        states.append(state)
        ahead = path
    if not states or _is_told(states, part):
        raise BadPaper(-1)
    return True
