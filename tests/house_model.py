"""A second model of processes, written from points [22], [23] and [70] to [73] of the document alone."""

from helpers import ANY, HOME
from model import WORDS, made
from unwindrows.codes import REGISTERS


class Break(Exception):
    pass


class Call:
    """An open call, with all that it has, and what it goes back to."""

    def __init__(self, name, number, base, back):
        self.name, self.number, self.base, self.back = name, number, base, back
        self.place, self.sp = 0, base
        self.held_at_call = None


class Model:
    def __init__(self, house):
        self.codes = dict(house)
        self.open = [Call(house[0][0], 0, 0, HOME)]
        self.held = {name: ("first", name) for name in REGISTERS}
        # All words that there can be: 20 calls with 65 words each.
        self.words = {at: ANY for at in range(-1400, 1)}
        self.words[0] = HOME
        self.word = "on"

    def within(self, at):
        return self.open[-1].base - 64 <= at <= self.open[-1].base

    def move_to(self, sp):
        if not self.within(sp):
            raise Break("sp")
        self.open[-1].sp = sp

    def address(self, name):
        value = self.held[name]
        if value[0] != "word" or value[1] != self.open[-1].number:
            raise Break("wild")
        return value[2]

    def place_of(self, basis, offset):
        at = (self.open[-1].sp if basis == "sp" else self.address(basis)) + offset
        if not self.within(at):
            raise Break("wild")
        return at

    def lose(self):
        self.held["x"] = self.held["y"] = ANY
        for at in self.words:
            if at < self.open[-1].sp:
                self.words[at] = ANY

    def call(self, name):
        caller = self.open[-1]
        if len(self.open) == 20:
            raise Break("deep")
        caller.place += 1
        caller.held_at_call = tuple(self.held[each] for each in "pqrs")
        callee = Call(name, caller.number + 1, caller.sp - 1, ("back", caller.name, caller.place))
        for at in self.words:
            if at < callee.base:
                self.words[at] = ANY
        self.words[callee.base] = callee.back
        self.open.append(callee)

    def done(self, take):
        now = self.open[-1]
        kind, *parts = self.codes[now.name][now.place]
        if kind == "call" and parts[0] in self.codes:
            self.call(parts[0])
            return "on"
        if kind == "return":
            if now.sp != now.base or self.words[now.base] != now.back:
                raise Break("return")
            self.open.pop()
            if not self.open:
                self.open.append(now)
                return "over"
            self.lose()
            return self.end_or_on()
        getattr(self, "do_" + kind)(*parts)
        goes = kind == "jump" or kind == "branch" and take
        now.place = parts[0] if goes else now.place + 1
        return self.end_or_on()

    def end_or_on(self):
        now = self.open[-1]
        return "end" if now.place == len(self.codes[now.name]) else "on"

    def step(self, take):
        if self.word == "on":
            try:
                self.word = self.done(take)
            except Break as error:
                self.word = error.args[0]
        return self.word

    def do_push(self, name):
        self.move_to(self.open[-1].sp - 1)
        self.words[self.open[-1].sp] = self.held[name]

    def do_pop(self, name):
        value = self.words[self.open[-1].sp]
        self.move_to(self.open[-1].sp + 1)
        self.held[name] = value

    def do_grow(self, many):
        self.move_to(self.open[-1].sp - many)

    def do_shrink(self, many):
        self.move_to(self.open[-1].sp + many)

    def do_move(self, name, other):
        self.held[name] = self.held[other]

    def do_point(self, name, offset):
        self.held[name] = ("word", self.open[-1].number, self.open[-1].sp + offset)

    def do_setsp(self, name, offset):
        self.move_to(self.address(name) + offset)

    def do_work(self, name):
        self.held[name] = ANY

    def do_store(self, basis, offset, name):
        self.words[self.place_of(basis, offset)] = self.held[name]

    def do_load(self, name, basis, offset):
        self.held[name] = self.words[self.place_of(basis, offset)]

    def do_call(self, name):
        self.lose()

    def do_jump(self, place):
        pass

    def do_branch(self, place):
        pass

    def picture(self):
        now = self.open[-1]
        words = tuple((at, self.words[at]) for at in sorted(self.words) if self.words[at] != ANY)
        return (now.name, now.place, now.sp, tuple(self.held.values()), words)

    def calls(self):
        told = []
        for call in reversed(self.open):
            held = tuple(self.held[name] for name in "pqrs") if not told else call.held_at_call
            told.append((call.name, call.place, call.base, held))
        return tuple(told)


NAMES = ("f", "g", "h", "k", "main", "abcdefgh")


def made_house(numbers, longest=8, words=WORDS + ("call",) * 4, near=(-2, -1, 0, 0, 1, 2, 64)):
    """A HOUSE of some functions that call each other, and others."""
    names = NAMES[:1 + numbers.below(6)]
    house = []
    for name in names:
        code = [list(step) for step in made(numbers, words=words, near=near, longest=longest)]
        for step in code:
            if step[0] == "call":
                step[1] = numbers.one_of(names + names + ("z",))
        house.append((name, tuple(tuple(step) for step in code)))
    return tuple(house)
