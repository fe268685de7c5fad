"""Unwinding: the callers of a function that is stopped anywhere, found by TABLEs."""

from unwindrows.codes import PRESERVED, REGISTERS
from unwindrows.tables import rule_of

ANY = ("any",)
HOME = ("back", "", 0)


def _base(finding, sp, held, ahead):
    """The number of the word at the base, or None if it is not found; ahead is that of the FRAME ahead, or None."""
    if finding is None:
        return None
    basis, offset = finding
    start = ("word", 0, sp) if basis == "sp" else held[basis]
    if start is None or start[0] != "word":
        return None
    base = start[2] + offset
    # The stack grows toward lower numbers, so that the base of a caller is above that of the call.
    if base > 0 or (ahead is not None and base <= ahead):
        return None
    return base


def _value(where, base, held, words):
    """The VALUE that a WHERE finds, or None if nothing is known of it."""
    if where[0] == "lost":
        return None
    if where[0] == "in":
        return held[where[1]]
    return words.get(base + where[1])


def unwound(picture, tables):
    """The FRAMEs of a PICTURE by TABLES, and the word with which unwinding ends."""
    name, place, sp, values, pairs = picture
    words = dict(pairs)
    held = {which: None if value == ANY else value for which, value in zip(REGISTERS, values)}
    frames = []
    base = None
    while True:
        known = tuple([held[which] for which in PRESERVED])
        if name not in tables:
            frames.append((name, place, None, known))
            return (tuple(frames), "strange")
        finding, sites = rule_of(tables[name], place)
        base = _base(finding, sp, held, base)
        frames.append((name, place, base, known))
        if base is None:
            return (tuple(frames), "lost")
        back, *found = [_value(where, base, held, words) for where in sites]
        if back is None or back[0] != "back":
            return (tuple(frames), "lost")
        if back == HOME:
            return (tuple(frames), "out")
        _, name, place = back
        sp = base + 1
        # Nothing is known of x and y of a caller.
        held = {which: None for which in REGISTERS}
        for which, value in zip(PRESERVED, found):
            held[which] = value


def count_known(frames):
    """How many VALUEs of preserved registers are known in some FRAMEs."""
    return sum([1 for frame in frames for value in frame[3] if value is not None])
