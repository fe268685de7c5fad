"""All STOPs of a CODE, and its FAULTS."""

from unwindrows.codes import need_code, need_place
from unwindrows.errors import TooMany
from unwindrows.packed import PRESERVED_SLOTS, SLOT, START, breaks_at, steps_of, stop_of

MOST_STOPS = 2000


def search(steps):
    """All states of the CODE that has these steps: a dict from each one to the one ahead of it, or None.

    The states are in the order of their first PATHs, and each first PATH leads
    over that of the state ahead.
    """
    found = {START: None}
    level = [START]
    # The states of a level have first PATHs of one length, in ascending order.
    # So the one that first leads to a new state does it by the first PATH of that one.
    while level:
        further = []
        for state in level:
            # This is packed.behind, written out because it is done for each state.
            action, instruction, moves, _ = steps[state & SLOT]
            after = action(state, instruction)
            if after >= 0:
                for move in moves:
                    if after + move not in found:
                        found[after + move] = state
                        further.append(after + move)
        if len(found) > MOST_STOPS:
            raise TooMany(MOST_STOPS)
        level = further
    return found


def path_to(found, state):
    """The first PATH to a state that a search has found."""
    places = []
    while state is not None:
        places.append(state & SLOT)
        state = found[state]
    return tuple(places[::-1])


def count_stops(code):
    """How many STOPs a CODE has."""
    need_code(code)
    return len(search(steps_of(code)))


def stops_at(code, place):
    """The STOPs at a PLACE, each as a pair (PATH, STOP), in the order of their first PATHs."""
    need_code(code)
    need_place(place, len(code))
    paths = {None: ()}
    for state, ahead in search(steps_of(code)).items():
        paths[state] = paths[ahead] + (state & SLOT,)
    del paths[None]
    return [(path, stop_of(state)) for state, path in paths.items() if state & SLOT == place]


def _faults_at(steps, state):
    """The FAULTS that happen at a state."""
    words = breaks_at(steps, state)
    is_return = steps[state & SLOT][1][0] == "return"
    if is_return and not words and state & PRESERVED_SLOTS != START & PRESERVED_SLOTS:
        return ("vow",)
    return words


def faults(code):
    """A dict from the FAULTS of a CODE, ascending, to their first PATHs."""
    need_code(code)
    steps = steps_of(code)
    found = search(steps)
    first = {}
    for state in found:
        for word in _faults_at(steps, state):
            first.setdefault(word, state)
    return {word: path_to(found, first[word]) for word in sorted(first)}


def is_sound(code):
    """Whether a CODE is SOUND."""
    return not faults(code)
