"""Compares runs with a second model, written from points [20] to [24] alone, over many CODEs."""

import unittest

from helpers import ANY, HOME, address
from unwindrows.codes import REGISTERS, need_code
from unwindrows.errors import BadPath
from unwindrows.runs import breaking, following, run

NEAR = (-64, -63, -3, -2, -1, 0, 0, 0, 1, 2, 3, 63, 64)
WORDS = (
    "push", "push", "pop", "grow", "shrink", "move", "point", "setsp", "work",
    "store", "load", "call", "jump", "branch", "branch", "return",
)


class Numbers:
    """The same row of numbers in each run of the tests."""

    def __init__(self, seed):
        self.state = seed

    def below(self, many):
        self.state = (self.state * 6364136223846793005 + 1442695040888963407) & (2 ** 64 - 1)
        return (self.state >> 33) * many >> 31

    def one_of(self, things):
        return things[self.below(len(things))]


def made(numbers):
    many = 1 + numbers.below(12)
    register = lambda: numbers.one_of(REGISTERS)
    basis = lambda: numbers.one_of(("sp", "sp") + REGISTERS)
    near = lambda: numbers.one_of(NEAR)
    code = []
    for _ in range(many):
        word = numbers.one_of(WORDS)
        if word in ("push", "pop", "work"):
            code.append((word, register()))
        elif word in ("grow", "shrink"):
            code.append((word, numbers.one_of((1, 1, 2, 3, 63, 64))))
        elif word == "move":
            code.append((word, register(), register()))
        elif word in ("point", "setsp"):
            code.append((word, register(), near()))
        elif word == "store":
            code.append((word, basis(), near(), register()))
        elif word == "load":
            code.append((word, register(), basis(), near()))
        elif word == "call":
            code.append((word, "f"))
        elif word == "return":
            code.append((word,))
        else:
            code.append((word, numbers.below(many)))
    return tuple(code)


def place_of_word(kind, sp, values):
    """The number of the word at a BASIS, or None."""
    if kind == "sp":
        return sp
    value = values[kind]
    return value[2] if value[:2] == ("word", 0) else None


def done(instruction, sp, values, words):
    """(sp, values, words) behind an INSTRUCTION other than a jump, or the word of the break."""
    kind, *parts = instruction
    values, words = dict(values), list(words)
    new = sp
    if kind == "push":
        new = sp - 1
        if new >= -64:
            words[new + 64] = values[parts[0]]
    elif kind == "pop":
        new = sp + 1
        values[parts[0]] = words[sp + 64]
    elif kind == "grow":
        new = sp - parts[0]
    elif kind == "shrink":
        new = sp + parts[0]
    elif kind == "move":
        values[parts[0]] = values[parts[1]]
    elif kind == "point":
        values[parts[0]] = address(sp + parts[1])
    elif kind == "work":
        values[parts[0]] = ANY
    elif kind == "setsp":
        at = place_of_word(parts[0], sp, values)
        if at is None:
            return "wild"
        new = at + parts[1]
    elif kind in ("store", "load"):
        basis, offset = parts[:2] if kind == "store" else parts[1:]
        at = place_of_word(basis, sp, values)
        if at is None or at + offset not in range(-64, 1):
            return "wild"
        if kind == "store":
            words[at + offset + 64] = values[parts[2]]
        else:
            values[parts[0]] = words[at + offset + 64]
    elif kind == "call":
        values["x"] = values["y"] = ANY
        words = [ANY] * (sp + 64) + words[sp + 64:]
    elif kind == "return" and (sp != 0 or words[64] != HOME):
        return "return"
    if new not in range(-64, 1):
        return "sp"
    return new, values, words


def modelled(code, path):
    """(STOP, following, breaking) of a PATH that is one."""
    sp, values = 0, {name: ("first", name) for name in REGISTERS}
    words = [ANY] * 64 + [HOME]
    for place in path[:-1]:
        sp, values, words = done(code[place], sp, values, words)
    place = path[-1]
    known = tuple((at - 64, value) for at, value in enumerate(words) if value != ANY)
    told = (place, sp, tuple(values.values()), known)
    result = done(code[place], sp, values, words)
    if isinstance(result, str):
        return told, (), (result,)
    kind = code[place][0]
    nexts = {"return": [], "jump": code[place][1:], "branch": [place + 1, code[place][-1]]}.get(kind, [place + 1])
    on = tuple(sorted({k for k in nexts if k < len(code)}))
    return told, on, tuple("end" for k in nexts if k == len(code))


class Model(unittest.TestCase):
    def walk(self, code, numbers):
        path = (0,)
        for _ in range(30):
            told = (run(code, path), following(code, path), breaking(code, path))
            self.assertEqual(told, modelled(code, path), (code, path))
            for place in range(-1, len(code) + 1):
                if place not in told[1]:
                    with self.assertRaises(BadPath) as caught:
                        run(code, path + (place,))
                    self.assertEqual(caught.exception.index, len(path))
            if not told[1]:
                return told[2]
            path += (numbers.one_of(told[1]),)
        return ("on",)

    def test_many_codes(self):
        numbers = Numbers(11)
        ends = {}
        for _ in range(1500):
            code = need_code(made(numbers))
            end = self.walk(code, numbers)
            ends[end] = ends.get(end, 0) + 1
        for end in ((), ("on",), ("sp",), ("wild",), ("return",), ("end",)):
            self.assertGreater(ends.get(end, 0), 20, end)


if __name__ == "__main__":
    unittest.main()
