"""HOUSEs of functions that call each other, and processes of them."""

from unwindrows.codes import PRESERVED, REGISTERS, is_name, need_code
from unwindrows.errors import BadCode, BadHouse
from unwindrows.machine import State, do, enter, resume

MOST_CALLS = 20
MOST_FUNCTIONS = 6


def _is_pair(thing, names):
    """Whether a thing of any kind is a pair of a NAME, other than these names, and a tuple."""
    if not isinstance(thing, tuple) or len(thing) != 2:
        return False
    name, code = thing
    return is_name(name) and name not in names and isinstance(code, tuple)


def need_house(thing):
    """The thing itself, if it is a HOUSE."""
    if not isinstance(thing, tuple) or not 1 <= len(thing) <= MOST_FUNCTIONS:
        raise BadHouse(())
    names = []
    for index, item in enumerate(thing):
        if not _is_pair(item, names):
            raise BadHouse((index,))
        name, code = item
        try:
            need_code(code)
        except BadCode as error:
            raise BadHouse((index, error.place)) from None
        names.append(name)
    return thing


class Process:
    """A process of a HOUSE."""

    def __init__(self, house):
        need_house(house)
        first, _ = house[0]
        self._codes = dict(house)
        self._name = first
        self._place = 0
        self._state = State()
        # For each caller, the outermost one first: what calls tells of it, and its sp and return address.
        self._callers = []
        self._word = "on"

    def step(self, take=False):
        """Does the next INSTRUCTION, and tells whether the process goes on, is over, or breaks."""
        if self._word == "on":
            self._word = self._stepped(take)
        return self._word

    def run(self, steps, takes=()):
        """Does so many steps. The branches that are met are told by takes where to go."""
        used = 0
        for _ in range(steps):
            if self._word != "on":
                break
            take = False
            if self._instruction()[0] == "branch" and used < len(takes):
                take = takes[used]
                used += 1
            self.step(take)
        return self._word

    def picture(self):
        """The PICTURE of a process that goes on."""
        state = self._state
        values = tuple([state.held[name] for name in REGISTERS])
        return (self._name, self._place, state.sp, values, tuple(sorted(state.words.items())))

    @property
    def depth(self):
        """How many calls are open besides call 0."""
        return len(self._callers)

    def calls(self):
        """The open calls of a process that goes on, each as (NAME, PLACE, BASE, HELD), the innermost one first."""
        innermost = (self._name, self._place, self._state.base, self._preserved())
        return (innermost, *[caller[:4] for caller in self._callers[::-1]])

    def _preserved(self):
        """What the preserved registers hold."""
        return tuple([self._state.held[name] for name in PRESERVED])

    def _instruction(self):
        """The next INSTRUCTION."""
        return self._codes[self._name][self._place]

    def _stepped(self, take):
        """Does the next INSTRUCTION of a process that goes on, and returns the word for what comes of it."""
        instruction = self._instruction()
        if instruction[0] == "call" and instruction[1] in self._codes:
            return self._called(instruction[1])
        broken = do(self._state, instruction)
        if broken is not None:
            return broken
        if instruction[0] == "return":
            return self._returned()
        if instruction[0] == "jump" or (instruction[0] == "branch" and take):
            return self._gone_to(instruction[1])
        return self._gone_to(self._place + 1)

    def _gone_to(self, place):
        """Goes on at a PLACE, if there is one."""
        if place == len(self._codes[self._name]):
            return "end"
        self._place = place
        return "on"

    def _called(self, name):
        """Begins a call of a function of the HOUSE."""
        if len(self._callers) + 1 == MOST_CALLS:
            return "deep"
        state = self._state
        behind = self._place + 1
        self._callers.append((self._name, behind, state.base, self._preserved(), state.sp, state.back))
        enter(state, ("back", self._name, behind))
        self._name = name
        self._place = 0
        return "on"

    def _returned(self):
        """Goes on in the caller of the call that has returned, if there is one."""
        if not self._callers:
            return "over"
        name, behind, base, _, sp, back = self._callers.pop()
        resume(self._state, sp, base, back)
        self._name = name
        return self._gone_to(behind)
