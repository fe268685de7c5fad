"""RULEs: what finds the base, the return address and the registers of a caller.

A FACT is a pair (PART, WHAT) of "base" and a FINDING, or of an ITEM and a WHERE
other than ("lost",). It holds at a STOP if the FINDING or the WHERE does.
"""

from unwindrows.codes import MOST_WORDS, REGISTERS, is_basis, is_between, is_register, need_code, need_place
from unwindrows.errors import BadItem, NeverThere
from unwindrows.states import stops_at

ITEMS = ("back", "p", "q", "r", "s")
ENTRY = (("sp", 0), (("word", 0), ("in", "p"), ("in", "q"), ("in", "r"), ("in", "s")))
PARTS = ("base", "back", "p", "q", "r", "s")
LOST = ("lost",)
# The least sp is MOST_WORDS below the base, and an address at most as many below sp.
MOST_FINDING = 128

# The VALUEs that are looked for in runs of one function.
MEANT = {
    ("back", "", 0): "back",
    ("first", "p"): "p",
    ("first", "q"): "q",
    ("first", "r"): "r",
    ("first", "s"): "s",
}


def is_finding(thing):
    """Whether a thing of any kind is a FINDING."""
    if not isinstance(thing, tuple) or len(thing) != 2:
        return False
    basis, offset = thing
    return is_basis(basis) and is_between(offset, -MOST_WORDS, MOST_FINDING)


def is_where(thing):
    """Whether a thing of any kind is a WHERE."""
    if not isinstance(thing, tuple) or not thing or not isinstance(thing[0], str):
        return False
    word, *parts = thing
    if word == "lost":
        return not parts
    if len(parts) != 1:
        return False
    if word == "in":
        return is_register(parts[0])
    return word == "word" and is_between(parts[0], -MOST_WORDS, 0)


def is_rule(finding, sites):
    """Whether two things of any kind are the FINDING and the WHERES of a RULE."""
    if finding is not None and not is_finding(finding):
        return False
    if not isinstance(sites, tuple) or len(sites) != len(ITEMS):
        return False
    if not all([is_where(where) for where in sites]):
        return False
    # Words are counted from the base, so that they are of no use without it.
    return finding is not None or not any([where[0] == "word" for where in sites])


def need_item(thing):
    """The thing itself, if it is an ITEM."""
    if not isinstance(thing, str) or thing not in ITEMS:
        raise BadItem(thing)
    return thing


def told_facts(rule):
    """The FACTs that a RULE tells: "base" first, then the ITEMs in their order."""
    finding, sites = rule
    told = [] if finding is None else [("base", finding)]
    return told + [(item, where) for item, where in zip(ITEMS, sites) if where != LOST]


def facts_at(stop):
    """A dict with all FACTs that hold at a STOP of a run of one function as its keys."""
    _, sp, values, words = stop
    facts = {("base", ("sp", -sp)): True}
    for name, value in zip(REGISTERS, values):
        if value in MEANT:
            facts[MEANT[value], ("in", name)] = True
        # The base is word 0 of call 0; addresses that other calls made are of no use.
        if value[0] == "word" and value[1] == 0:
            facts["base", (name, -value[2])] = True
    for at, value in words:
        if value in MEANT:
            facts[MEANT[value], ("word", at)] = True
    return facts


def common_facts(stops):
    """A dict with all FACTs that hold at all of some STOPs, at least one, as its keys."""
    first, *others = stops
    common = facts_at(first)
    for stop in others:
        facts = facts_at(stop)
        common = {fact: True for fact in common if fact in facts}
    return common


def wrong_part(rule, stop):
    """The first part of a RULE that does not hold at a STOP, or None if the RULE holds."""
    facts = facts_at(stop)
    for fact in told_facts(rule):
        if fact not in facts:
            return fact[0]
    return None


def holds(rule, stop):
    """Whether a RULE holds at a STOP of a run of one function."""
    return wrong_part(rule, stop) is None


def _holding(code, place, part):
    """The ascending tuple of what holds for a part at all STOPs at a PLACE."""
    stops = [stop for _, stop in stops_at(code, place)]
    if not stops:
        raise NeverThere(place)
    return tuple(sorted([what for kind, what in common_facts(stops) if kind == part]))


def findings(code, place):
    """The ascending tuple of the FINDINGs that hold at all STOPs at a PLACE."""
    return _holding(code, place, "base")


def wheres(code, place, item):
    """The ascending tuple of the WHEREs, not ("lost",), that hold for an ITEM at all STOPs at a PLACE."""
    need_code(code)
    need_place(place, len(code))
    need_item(item)
    return _holding(code, place, item)
