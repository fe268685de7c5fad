"""All STOPs of a CODE, and its FAULTS."""

from unwindrows.codes import PRESERVED, need_code, need_place
from unwindrows.errors import TooMany
from unwindrows.machine import State, advance, state_at, stop_of

MOST_STOPS = 2000


def _stops_behind(code, stop):
    """The STOPs that can be next behind a STOP, by ascending PLACEs."""
    state = state_at(stop)
    places, _ = advance(code, state)
    behind = []
    for place in places:
        state.place = place
        behind.append(stop_of(state))
    return behind


def first_paths(code):
    """A dict from the STOPs of a CODE to their first PATHs, in the order of these PATHs."""
    need_code(code)
    first = stop_of(State())
    paths = {first: (0,)}
    waiting = [first]
    done = 0
    # The STOPs wait in the order of their first PATHs. So the one that first
    # leads to a new STOP does it by the first PATH of that STOP.
    while done < len(waiting):
        stop = waiting[done]
        done += 1
        for behind in _stops_behind(code, stop):
            if behind not in paths:
                paths[behind] = paths[stop] + (behind[0],)
                waiting.append(behind)
        if len(paths) > MOST_STOPS:
            raise TooMany(MOST_STOPS)
    return paths


def count_stops(code):
    """How many STOPs a CODE has."""
    return len(first_paths(code))


def stops_at(code, place):
    """The STOPs at a PLACE, each as a pair (PATH, STOP), in the order of their first PATHs."""
    need_code(code)
    need_place(place, len(code))
    return [(path, stop) for stop, path in first_paths(code).items() if stop[0] == place]


def _keeps_registers(stop):
    """Whether the preserved registers hold at a STOP what they held at first."""
    _, _, values, _ = stop
    # The preserved registers are the first ones of all, so zip leaves out the others.
    return all([value == ("first", name) for name, value in zip(PRESERVED, values)])


def _faults_at(code, stop):
    """The FAULTS that happen at a STOP."""
    _, words = advance(code, state_at(stop))
    place = stop[0]
    if code[place][0] == "return" and not words and not _keeps_registers(stop):
        return ("vow",)
    return words


def faults(code):
    """A dict from the FAULTS of a CODE, ascending, to their first PATHs."""
    found = {}
    for stop, path in first_paths(code).items():
        for word in _faults_at(code, stop):
            found.setdefault(word, path)
    return {word: found[word] for word in sorted(found)}


def is_sound(code):
    """Whether a CODE is SOUND."""
    return not faults(code)
