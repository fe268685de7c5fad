"""A second model of runs, rules and tables, written from the points of the document alone.

It is slow and plain: runs by [20] to [24], rules by [31] to [33], tables by [41] and [42].
"""

from helpers import ANY, HOME, address
from unwindrows.codes import REGISTERS
from unwindrows.errors import TooMany
from unwindrows.states import count_stops

NEAR = (-64, -63, -3, -2, -1, 0, 0, 0, 1, 2, 3, 63, 64)
WORDS = (
    "push", "push", "pop", "grow", "shrink", "move", "point", "setsp", "work",
    "store", "load", "call", "jump", "branch", "branch", "return",
)


class Numbers:
    """The same row of numbers in each run of the tests."""

    def __init__(self, seed):
        self.state = seed

    def below(self, many):
        self.state = (self.state * 6364136223846793005 + 1442695040888963407) & (2 ** 64 - 1)
        return (self.state >> 33) * many >> 31

    def one_of(self, things):
        return things[self.below(len(things))]


def made(numbers, words=WORDS, near=NEAR, longest=12):
    many = 1 + numbers.below(longest)
    register = lambda: numbers.one_of(REGISTERS)
    basis = lambda: numbers.one_of(("sp", "sp") + REGISTERS)
    code = []
    for _ in range(many):
        word = numbers.one_of(words)
        if word in ("push", "pop", "work"):
            code.append((word, register()))
        elif word in ("grow", "shrink"):
            code.append((word, numbers.one_of((1, 1, 2, 3, 63, 64))))
        elif word == "move":
            code.append((word, register(), register()))
        elif word in ("point", "setsp"):
            code.append((word, register(), numbers.one_of(near)))
        elif word == "store":
            code.append((word, basis(), numbers.one_of(near), register()))
        elif word == "load":
            code.append((word, register(), basis(), numbers.one_of(near)))
        elif word == "call":
            code.append((word, "f"))
        elif word == "return":
            code.append((word,))
        else:
            code.append((word, numbers.below(many)))
    return tuple(code)


def made_small(numbers, **kinds):
    """A CODE that does not have too many STOPs."""
    while True:
        code = made(numbers, **kinds)
        try:
            count_stops(code)
        except TooMany:
            continue
        return code


def place_of_word(kind, sp, values):
    """The number of the word at a BASIS, or None."""
    if kind == "sp":
        return sp
    value = values[kind]
    return value[2] if value[:2] == ("word", 0) else None


def done(instruction, sp, values, words):
    """(sp, values, words) behind an INSTRUCTION other than a jump, or the word of the break."""
    kind, *parts = instruction
    values, words = dict(values), list(words)
    new = sp
    if kind == "push":
        new = sp - 1
        if new >= -64:
            words[new + 64] = values[parts[0]]
    elif kind == "pop":
        new = sp + 1
        values[parts[0]] = words[sp + 64]
    elif kind == "grow":
        new = sp - parts[0]
    elif kind == "shrink":
        new = sp + parts[0]
    elif kind == "move":
        values[parts[0]] = values[parts[1]]
    elif kind == "point":
        values[parts[0]] = address(sp + parts[1])
    elif kind == "work":
        values[parts[0]] = ANY
    elif kind == "setsp":
        at = place_of_word(parts[0], sp, values)
        if at is None:
            return "wild"
        new = at + parts[1]
    elif kind in ("store", "load"):
        basis, offset = parts[:2] if kind == "store" else parts[1:]
        at = place_of_word(basis, sp, values)
        if at is None or at + offset not in range(-64, 1):
            return "wild"
        if kind == "store":
            words[at + offset + 64] = values[parts[2]]
        else:
            values[parts[0]] = words[at + offset + 64]
    elif kind == "call":
        values["x"] = values["y"] = ANY
        words = [ANY] * (sp + 64) + words[sp + 64:]
    elif kind == "return" and (sp != 0 or words[64] != HOME):
        return "return"
    if new not in range(-64, 1):
        return "sp"
    return new, values, words


def modelled(code, path):
    """(STOP, following, breaking) of a PATH that is one."""
    sp, values = 0, {name: ("first", name) for name in REGISTERS}
    words = [ANY] * 64 + [HOME]
    for place in path[:-1]:
        sp, values, words = done(code[place], sp, values, words)
    place = path[-1]
    known = tuple((at - 64, value) for at, value in enumerate(words) if value != ANY)
    told = (place, sp, tuple(values.values()), known)
    result = done(code[place], sp, values, words)
    if isinstance(result, str):
        return told, (), (result,)
    kind = code[place][0]
    nexts = {"return": [], "jump": code[place][1:], "branch": [place + 1, code[place][-1]]}.get(kind, [place + 1])
    on = tuple(sorted({k for k in nexts if k < len(code)}))
    return told, on, tuple("end" for k in nexts if k == len(code))


def paths_of(code, longest):
    """All PATHs of a CODE with at most so many PLACEs, in their order, each with what is modelled for it."""
    told = []
    level = [(0,)]
    for _ in range(longest):
        behind = []
        for path in level:
            stop, on, words = modelled(code, path)
            told.append((path, stop, words))
            behind += [path + (place,) for place in on]
        level = behind
    return told


def first_stops(code, longest):
    """The STOPs of a CODE with their first PATHs, as far as these have at most so many PLACEs."""
    first = {}
    for path, stop, _ in paths_of(code, longest):
        first.setdefault(stop, path)
    return first


def first_faults(code, longest):
    """The FAULTS of a CODE with their first PATHs, as far as these have at most so many PLACEs."""
    first = {}
    for path, stop, words in paths_of(code, longest):
        kept = stop[2][:4] == tuple(("first", name) for name in "pqrs")
        if code[path[-1]] == ("return",) and not words and not kept:
            words = ("vow",)
        for word in words:
            first.setdefault(word, path)
    return first


def finding_holds(finding, stop):
    basis, offset = finding
    if basis == "sp":
        return stop[1] + offset == 0
    value = stop[2][REGISTERS.index(basis)]
    return value[:2] == ("word", 0) and value[2] + offset == 0


def where_holds(where, item, stop):
    if where == ("lost",):
        return True
    wanted = HOME if item == "back" else ("first", item)
    if where[0] == "in":
        return stop[2][REGISTERS.index(where[1])] == wanted
    return dict(stop[3]).get(where[1], ANY) == wanted


ITEMS = ("back", "p", "q", "r", "s")
ALL_FINDINGS = [(basis, offset) for basis in ("p", "q", "r", "s", "sp", "x", "y") for offset in range(-64, 129)]
ALL_WHERES = [("in", name) for name in REGISTERS] + [("word", at) for at in range(-64, 1)]


def findings_of(stops):
    return tuple(each for each in ALL_FINDINGS if all(finding_holds(each, stop) for stop in stops))


def wheres_of(stops, item):
    return tuple(each for each in ALL_WHERES if all(where_holds(each, item, stop) for stop in stops))


def rule_in(table, place):
    last = [row for row in table if row[0] <= place][-1]
    return last[1], last[2]


def first_wrong(table, stops):
    """What check_table tells of a TABLE, for a dict from STOPs to PATHs in the order of the PATHs."""
    for stop, path in stops.items():
        finding, sites = rule_in(table, stop[0])
        if finding is not None and not finding_holds(finding, stop):
            return path, "base"
        for item, where in zip(ITEMS, sites):
            if not where_holds(where, item, stop):
                return path, item
    return None


def all_gaps(code, table, stops):
    """The GAPs of a TABLE, for all STOPs of the CODE."""
    found = []
    for place in range(len(code)):
        there = [stop for stop in stops if stop[0] == place]
        if there:
            finding, sites = rule_in(table, place)
            base = findings_of(there)
            if base and finding is None:
                found.append((place, "base"))
            for item, where in zip(ITEMS, sites):
                can = [each for each in wheres_of(there, item) if base or each[0] == "in"]
                if can and where == ("lost",):
                    found.append((place, item))
    return tuple(found)
