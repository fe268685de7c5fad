"""SCRIPTs: short ways to write TABLEs, with RULEs that are kept and taken again."""

from unwindrows.codes import MOST_CODE, is_between
from unwindrows.errors import BadScript
from unwindrows.rules import ENTRY, PARTS, is_rule
from unwindrows.tables import need_table

MOST_KEEPS = 60


def _are_sets(thing):
    """Whether a thing of any kind is a tuple of pairs of a PART and something, in the order of PARTS."""
    if not isinstance(thing, tuple):
        return False
    parts = list(PARTS)
    for pair in thing:
        if not isinstance(pair, tuple) or len(pair) != 2:
            return False
        part, _ = pair
        if not isinstance(part, str) or part not in parts:
            return False
        # Only what comes behind it in the order may follow.
        parts = parts[parts.index(part) + 1:]
    return True


def _is_group(thing, least, most):
    """Whether a thing of any kind is a GROUP with a PLACE from least to most."""
    if not isinstance(thing, tuple) or len(thing) != 4:
        return False
    place, again, sets, keeps = thing
    if not is_between(place, least, most) or not isinstance(again, bool):
        return False
    return _are_sets(sets) and is_between(keeps, 0, MOST_KEEPS)


def _replaced(parts, sets):
    """What a RULE consists of, in the order of PARTS, when those in some SETS are replaced."""
    replaced = dict(sets)
    return [replaced.get(part, old) for part, old in zip(PARTS, parts)]


def _done(thing):
    """The rows that a thing of any kind makes, if it is a SCRIPT."""
    if not isinstance(thing, tuple) or not 1 <= len(thing) <= MOST_CODE:
        raise BadScript(None)
    least = 0
    most = 0
    finding, sites = ENTRY
    pile = []
    rows = []
    for index, group in enumerate(thing):
        if not _is_group(group, least, most):
            raise BadScript(index)
        place, again, sets, keeps = group
        if again and not pile:
            raise BadScript(index)
        if again:
            finding, sites = pile.pop()
        finding, *others = _replaced((finding, *sites), sets)
        sites = tuple(others)
        # This refuses, too, what is set for a part and cannot be one.
        if not is_rule(finding, sites):
            raise BadScript(index)
        rows.append((place, finding, sites))
        pile += [(finding, sites)] * keeps
        least = place + 1
        most = MOST_CODE - 1
    return tuple(rows)


def need_script(thing):
    """The thing itself, if it is a SCRIPT."""
    _done(thing)
    return thing


def expanded(groups):
    """The TABLE that is expanded from a SCRIPT."""
    return _done(groups)


def size_of(groups):
    """The SIZE of a SCRIPT."""
    need_script(groups)
    return sum([1 + int(again) + len(sets) + keeps for _, again, sets, keeps in groups])


def _sets_between(old, new):
    """The SETS that make one RULE, told by its parts, of another one."""
    return tuple([(part, what) for part, was, what in zip(PARTS, old, new) if was != what])


def _savings(rules):
    """For each row the rows ahead that are worth to be taken again there: dicts to what this saves."""
    savings = []
    for end, rule in enumerate(rules):
        saved = {}
        most = len(_sets_between(rules[end - 1], rule)) - 2 if end > 0 else 0
        # To keep and to take again costs two, so that three sets must be saved.
        if most > 0:
            for start in range(end - 1):
                left = most - len(_sets_between(rules[start], rule))
                if left > 0:
                    saved[start] = left
        savings.append(saved)
    return savings


def _best_starts(savings):
    """For each span of rows, from a first to an end, which row is best taken again at this end, or None.

    Spans that are kept at the same time lie within one another. So if a row is
    taken again at the end, what is taken ahead of it lies ahead of that row, or
    between the two.
    """
    saved = []
    starts = []
    for end, choices in enumerate(savings):
        # What is saved between each first row and this end if nothing is taken at the end.
        most = saved[end - 1] + [0] if end > 0 else [0]
        best = [None] * (end + 1)
        for start, saving in choices.items():
            within = saving + saved[end - 1][start]
            for first in range(start + 1):
                if saved[start][first] + within > most[first]:
                    most[first] = saved[start][first] + within
                    best[first] = start
        saved.append(most)
        starts.append(best)
    return starts


def _spans(rules):
    """A dict from rows to those rows that are taken again at them in a SCRIPT of the least SIZE."""
    starts = _best_starts(_savings(rules))
    spans = {}
    waiting = [(0, len(rules) - 1)]
    while waiting:
        first, end = waiting.pop()
        if first < end:
            start = starts[end][first]
            if start is None:
                waiting.append((first, end - 1))
            else:
                spans[end] = start
                waiting += [(first, start), (start, end - 1)]
    return spans


def written(table):
    """A SCRIPT of the least SIZE from which a TABLE is expanded."""
    need_table(table)
    rules = [(finding, *sites) for _, finding, sites in table]
    spans = _spans(rules)
    kept = list(spans.values())
    finding, sites = ENTRY
    old = (finding, *sites)
    groups = []
    for row, (place, _, _) in enumerate(table):
        again = row in spans
        if again:
            old = rules[spans[row]]
        groups.append((place, again, _sets_between(old, rules[row]), kept.count(row)))
        old = rules[row]
    return tuple(groups)
