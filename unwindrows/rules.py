"""RULEs: what finds the base, the return address and the registers of a caller.

A FACT is a pair (PART, WHAT) of "base" and a FINDING, or of an ITEM and a WHERE
other than ("lost",). It holds at a STOP if the FINDING or the WHERE does. By its
CLUE, a pair of where a slot begins and what this slot has to hold, it can be seen
in a packed state whether it holds.
"""

from unwindrows.codes import MOST_WORDS, REGISTERS, is_basis, is_between, need_code, need_place
from unwindrows.errors import BadItem, NeverThere
from unwindrows.packed import ADDRESS_OF_0, DEPTH, SHIFTS, SLOT, WIDTH, WORDS, steps_of, stop_of
from unwindrows.states import search

ITEMS = ("back", "p", "q", "r", "s")
ENTRY = (("sp", 0), (("word", 0), ("in", "p"), ("in", "q"), ("in", "r"), ("in", "s")))
PARTS = ("base", "back", "p", "q", "r", "s")
LOST = ("lost",)
# The least sp is MOST_WORDS below the base, and an address at most as many below sp.
MOST_FINDING = 128

# The VALUEs that are looked for in runs of one function, and their MARKs in packed states.
MEANT = {
    ("back", "", 0): "back",
    ("first", "p"): "p",
    ("first", "q"): "q",
    ("first", "r"): "r",
    ("first", "s"): "s",
}
MARKS = {"back": 7, "p": 1, "q": 2, "r": 3, "s": 4}


def is_finding(thing):
    """Whether a thing of any kind is a FINDING."""
    if not isinstance(thing, tuple) or len(thing) != 2:
        return False
    basis, offset = thing
    return is_basis(basis) and is_between(offset, -MOST_WORDS, MOST_FINDING)


def are_wheres(things):
    """Whether all of some things of any kind are WHEREs."""
    # TABLEs have many of them, so that this asks without a call for each.
    for thing in things:
        if not isinstance(thing, tuple):
            return False
        if len(thing) == 2:
            word, which = thing
            if isinstance(which, str):
                is_good = isinstance(word, str) and word == "in" and which in REGISTERS
            else:
                is_number = isinstance(which, int) and not isinstance(which, bool)
                is_good = isinstance(word, str) and word == "word" and is_number and -MOST_WORDS <= which <= 0
        else:
            is_good = len(thing) == 1 and isinstance(thing[0], str) and thing[0] == "lost"
        if not is_good:
            return False
    return True


def is_rule(finding, sites):
    """Whether two things of any kind are the FINDING and the WHERES of a RULE."""
    if not isinstance(sites, tuple) or len(sites) != len(ITEMS) or not are_wheres(sites):
        return False
    if finding is None:
        # Words are counted from the base, so that they are of no use without it.
        return not any([where[0] == "word" for where in sites])
    return is_finding(finding)


def need_item(thing):
    """The thing itself, if it is an ITEM."""
    if not isinstance(thing, str) or thing not in ITEMS:
        raise BadItem(thing)
    return thing


def told_facts(rule):
    """The FACTs that a RULE tells: "base" first, then the ITEMs in their order."""
    finding, sites = rule
    told = [] if finding is None else [("base", finding)]
    return told + [(item, where) for item, where in zip(ITEMS, sites) if where != LOST]


def facts_at(stop):
    """A dict with all FACTs that hold at a STOP of a run of one function as its keys."""
    _, sp, values, words = stop
    facts = {("base", ("sp", -sp)): True}
    for name, value in zip(REGISTERS, values):
        if value in MEANT:
            facts[MEANT[value], ("in", name)] = True
        # The base is word 0 of call 0; addresses that other calls made are of no use.
        if value[0] == "word" and value[1] == 0:
            facts["base", (name, -value[2])] = True
    for at, value in words:
        if value in MEANT:
            facts[MEANT[value], ("word", at)] = True
    return facts


def holds(rule, stop):
    """Whether a RULE holds at a STOP of a run of one function."""
    facts = facts_at(stop)
    return all([fact in facts for fact in told_facts(rule)])


def clue_of(fact):
    """The CLUE of a FACT."""
    part, (word, which) = fact
    if part != "base":
        return (SHIFTS[which] if word == "in" else WORDS - WIDTH * which, MARKS[part])
    if word == "sp":
        return (DEPTH, which)
    return (SHIFTS[word], ADDRESS_OF_0 - which)


def common_facts(states):
    """The list of all FACTs that hold at all of some packed states, at least one."""
    first = states[0]
    unlike = 0
    for state in states:
        unlike |= state ^ first
    # What tells a FACT of the first one must be the same in all others.
    return [fact for fact in facts_at(stop_of(first)) if (unlike >> clue_of(fact)[0]) & SLOT == 0]


def states_at(found, place):
    """Those of the states that a search has found that are at a PLACE, at least one."""
    states = [state for state in found if state & SLOT == place]
    if not states:
        raise NeverThere(place)
    return states


def _holding(code, place, part):
    """The ascending tuple of what holds for a part at all STOPs at a PLACE of a CODE."""
    states = states_at(search(steps_of(code)), place)
    return tuple(sorted([what for kind, what in common_facts(states) if kind == part]))


def findings(code, place):
    """The ascending tuple of the FINDINGs that hold at all STOPs at a PLACE."""
    need_code(code)
    need_place(place, len(code))
    return _holding(code, place, "base")


def wheres(code, place, item):
    """The ascending tuple of the WHEREs, not ("lost",), that hold for an ITEM at all STOPs at a PLACE."""
    need_code(code)
    need_place(place, len(code))
    need_item(item)
    return _holding(code, place, item)
