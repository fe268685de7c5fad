"""TABLEs: whether one is right, what it leaves out, and the ones with the fewest rows."""

from unwindrows.codes import MOST_CODE, is_between, need_code, need_place
from unwindrows.errors import BadTable
from unwindrows.packed import SLOT, steps_of
from unwindrows.rules import ITEMS, LOST, PARTS, clue_of, common_facts, is_rule, told_facts
from unwindrows.states import path_to, search


def _need_rows(thing, many):
    """The thing itself, if it is a TABLE that has rows only at the first PLACEs, so many."""
    if not isinstance(thing, tuple) or not 1 <= len(thing) <= MOST_CODE:
        raise BadTable(None)
    least = 0
    most = 0
    for index, item in enumerate(thing):
        if not isinstance(item, tuple) or len(item) != 3:
            raise BadTable(index)
        place, finding, sites = item
        if not is_between(place, least, most) or not is_rule(finding, sites):
            raise BadTable(index)
        least = place + 1
        most = many - 1
    return thing


def need_table(thing):
    """The thing itself, if it is a TABLE."""
    return _need_rows(thing, MOST_CODE)


def rule_of(table, place):
    """The RULE of a PLACE in what is known to be a TABLE."""
    _, finding, sites = [row for row in table if row[0] <= place][-1]
    return (finding, sites)


def rule_at(table, place):
    """The RULE of a PLACE from 0 to 59."""
    need_table(table)
    need_place(place, MOST_CODE)
    return rule_of(table, place)


def _wrong_part(facts, clues, state):
    """The part of the first of some FACTs that does not hold at a packed state, or None."""
    for (part, _), (shift, held) in zip(facts, clues):
        if (state >> shift) & SLOT != held:
            return part
    return None


def check_table(code, table):
    """None if a TABLE is right, or the first PATH to where it is not, with the part that is wrong."""
    need_code(code)
    _need_rows(table, len(code))
    facts = [told_facts(rule_of(table, place)) for place in range(len(code))]
    clues = [[clue_of(fact) for fact in told] for told in facts]
    found = search(steps_of(code))
    for state in found:
        place = state & SLOT
        part = _wrong_part(facts[place], clues[place], state)
        if part is not None:
            return (path_to(found, state), part)
    return None


def _choices_at(states):
    """What a FULL TABLE can tell at these packed states: a dict from parts to lists, None for no states."""
    if not states:
        return None
    choices = {part: [] for part in PARTS}
    for part, what in common_facts(states):
        choices[part].append(what)
    if not choices["base"]:
        # Words are counted from the base, so that they cannot be told without it.
        for item in ITEMS:
            choices[item] = [where for where in choices[item] if where[0] != "word"]
    return choices


def _all_choices(code):
    """What a FULL TABLE can tell at each PLACE of a CODE."""
    states = [[] for _ in code]
    for state in search(steps_of(code)):
        states[state & SLOT].append(state)
    return [_choices_at(there) for there in states]


def gaps(code, table):
    """The tuple of the GAPs of a TABLE."""
    need_code(code)
    _need_rows(table, len(code))
    found = []
    for place, choices in enumerate(_all_choices(code)):
        if choices is not None:
            told = [part for part, _ in told_facts(rule_of(table, place))]
            found += [(place, part) for part in PARTS if choices[part] and part not in told]
    return tuple(found)


def _shared(kept, choices):
    """What of kept can be told at one more PLACE, too, or None if no RULE serves for all."""
    if choices is None:
        return kept
    shared = {}
    for part in PARTS:
        shared[part] = [what for what in kept[part] if what in choices[part]]
        # What can be told at some PLACEs only is a GAP at these, or wrong at the others.
        if not shared[part] and (kept[part] or choices[part]):
            return None
    return shared


def _chosen(choices, otherwise):
    """One of some FINDINGs or WHEREs, or something else if there are none."""
    # sp and the words of the stack are there in each FRAME, a register can have been lost.
    sure = [what for what in choices if what[0] in ("sp", "word")]
    return (sure + choices + [otherwise])[0]


def _row(place, kept):
    """The row at a PLACE with a RULE out of what was kept for it."""
    return (place, _chosen(kept["base"], None), tuple([_chosen(kept[item], LOST) for item in ITEMS]))


def least_table(code):
    """A FULL TABLE of a CODE with the fewest rows."""
    need_code(code)
    # Each run stops at PLACE 0, so that the first row has something to begin with.
    kept, *others = _all_choices(code)
    start = 0
    rows = []
    for place, choices in enumerate(others, start=1):
        shared = _shared(kept, choices)
        if shared is None:
            rows.append(_row(start, kept))
            start = place
            kept = choices
        else:
            kept = shared
    return tuple(rows + [_row(start, kept)])
