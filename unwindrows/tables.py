"""TABLEs: whether one is right, what it leaves out, and the ones with the fewest rows."""

from unwindrows.codes import MOST_CODE, is_between, need_code, need_place
from unwindrows.errors import BadTable
from unwindrows.rules import ITEMS, LOST, PARTS, common_facts, is_rule, told_facts, wrong_part
from unwindrows.states import first_paths


def _is_row(thing, least, most):
    """Whether a thing of any kind is a row with a PLACE from least to most."""
    if not isinstance(thing, tuple) or len(thing) != 3:
        return False
    place, finding, sites = thing
    return is_between(place, least, most) and is_rule(finding, sites)


def _need_rows(thing, many):
    """The thing itself, if it is a TABLE that has rows only at the first PLACEs, so many."""
    if not isinstance(thing, tuple) or not 1 <= len(thing) <= MOST_CODE:
        raise BadTable(None)
    least = 0
    most = 0
    for index, item in enumerate(thing):
        if not _is_row(item, least, most):
            raise BadTable(index)
        least = item[0] + 1
        most = many - 1
    return thing


def need_table(thing):
    """The thing itself, if it is a TABLE."""
    return _need_rows(thing, MOST_CODE)


def _rule_of(table, place):
    """The RULE of a PLACE in what is known to be a TABLE."""
    _, finding, sites = [row for row in table if row[0] <= place][-1]
    return (finding, sites)


def rule_at(table, place):
    """The RULE of a PLACE from 0 to 59."""
    need_table(table)
    need_place(place, MOST_CODE)
    return _rule_of(table, place)


def check_table(code, table):
    """None if a TABLE is right, or the first PATH to where it is not, with the part that is wrong."""
    need_code(code)
    _need_rows(table, len(code))
    rules = [_rule_of(table, place) for place in range(len(code))]
    for stop, path in first_paths(code).items():
        part = wrong_part(rules[stop[0]], stop)
        if part is not None:
            return (path, part)
    return None


def _choices_at(stops):
    """What a FULL TABLE can tell at these STOPs: a dict from parts to lists, None for no STOPs."""
    if not stops:
        return None
    common = common_facts(stops)
    choices = {part: [what for kind, what in common if kind == part] for part in PARTS}
    if not choices["base"]:
        # Words are counted from the base, so that they cannot be told without it.
        for item in ITEMS:
            choices[item] = [where for where in choices[item] if where[0] != "word"]
    return choices


def _all_choices(code):
    """What a FULL TABLE can tell at each PLACE of a CODE."""
    stops = [[] for _ in code]
    for stop in first_paths(code):
        stops[stop[0]].append(stop)
    return [_choices_at(there) for there in stops]


def gaps(code, table):
    """The tuple of the GAPs of a TABLE."""
    need_code(code)
    _need_rows(table, len(code))
    found = []
    for place, choices in enumerate(_all_choices(code)):
        if choices is not None:
            told = [part for part, _ in told_facts(_rule_of(table, place))]
            found += [(place, part) for part in PARTS if choices[part] and part not in told]
    return tuple(found)


def _shared(kept, choices):
    """What of kept can be told at one more PLACE, too, or None if no RULE serves for all."""
    if choices is None:
        return kept
    shared = {}
    for part in PARTS:
        shared[part] = [what for what in kept[part] if what in choices[part]]
        # What can be told at some PLACEs only is a GAP at these, or wrong at the others.
        if not shared[part] and (kept[part] or choices[part]):
            return None
    return shared


def _chosen(choices, otherwise):
    """One of some FINDINGs or WHEREs, or something else if there are none."""
    # sp and the words of the stack are there in each FRAME, a register can have been lost.
    sure = [what for what in choices if what[0] in ("sp", "word")]
    return (sure + choices + [otherwise])[0]


def _row(place, kept):
    """The row at a PLACE with a RULE out of what was kept for it."""
    return (place, _chosen(kept["base"], None), tuple([_chosen(kept[item], LOST) for item in ITEMS]))


def least_table(code):
    """A FULL TABLE of a CODE with the fewest rows."""
    need_code(code)
    # Each run stops at PLACE 0, so that the first row has something to begin with.
    kept, *others = _all_choices(code)
    start = 0
    rows = []
    for place, choices in enumerate(others, start=1):
        shared = _shared(kept, choices)
        if shared is None:
            rows.append(_row(start, kept))
            start = place
            kept = choices
        else:
            kept = shared
    return tuple(rows + [_row(start, kept)])
