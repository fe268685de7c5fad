"""CODEs: what an INSTRUCTION is, and what a CODE names."""

from unwindrows.errors import BadCode, BadPlace

REGISTERS = ("p", "q", "r", "s", "x", "y")
PRESERVED = ("p", "q", "r", "s")
MOST_CODE = 60
MOST_WORDS = 64
MOST_LETTERS = 8
LETTERS = "abcdefghijklmnopqrstuvwxyz"

# The parts behind each word, named as in point [11] of the document: S is an R
# there, and an N that is at least 1 is called MANY here.
FORMS = {
    "push": ("R",),
    "pop": ("R",),
    "grow": ("MANY",),
    "shrink": ("MANY",),
    "move": ("R", "R"),
    "point": ("R", "N"),
    "setsp": ("R", "N"),
    "work": ("R",),
    "store": ("B", "N", "R"),
    "load": ("R", "B", "N"),
    "call": ("NAME",),
    "jump": ("I",),
    "branch": ("I",),
    "return": (),
}


def is_number(thing):
    """Whether a thing of any kind is an integer."""
    # Python counts True and False among the integers, the document does not.
    return isinstance(thing, int) and not isinstance(thing, bool)


def is_between(thing, least, most):
    """Whether a thing of any kind is an integer from least to most."""
    return isinstance(thing, int) and not isinstance(thing, bool) and least <= thing <= most


def is_register(thing):
    """Whether a thing of any kind is a register."""
    # The question for a string comes first: a strange thing may equal everything.
    return isinstance(thing, str) and thing in REGISTERS


def is_basis(thing):
    """Whether a thing of any kind is a BASIS."""
    return isinstance(thing, str) and (thing == "sp" or thing in REGISTERS)


def is_name(thing):
    """Whether a thing of any kind is a NAME."""
    if not isinstance(thing, str) or not 1 <= len(thing) <= MOST_LETTERS:
        return False
    return all([letter in LETTERS for letter in thing])


def _fits(part, kind, many):
    """Whether a part is of a kind of FORMS, in a CODE of so many INSTRUCTIONs."""
    if kind == "R":
        return is_register(part)
    if kind == "B":
        return is_basis(part)
    if kind == "NAME":
        return is_name(part)
    if kind == "I":
        return is_between(part, 0, many - 1)
    if kind == "MANY":
        return is_between(part, 1, MOST_WORDS)
    return is_between(part, -MOST_WORDS, MOST_WORDS)


def _is_instruction(thing, many):
    """Whether a thing of any kind is an INSTRUCTION in a CODE of so many."""
    if not isinstance(thing, tuple) or not thing:
        return False
    word, *parts = thing
    if not isinstance(word, str) or word not in FORMS:
        return False
    kinds = FORMS[word]
    if len(parts) != len(kinds):
        return False
    return all([_fits(part, kind, many) for part, kind in zip(parts, kinds)])


def need_code(thing):
    """The thing itself, if it is a CODE."""
    if not isinstance(thing, tuple) or not 1 <= len(thing) <= MOST_CODE:
        raise BadCode(None)
    for place, item in enumerate(thing):
        if not _is_instruction(item, len(thing)):
            raise BadCode(place)
    return thing


def need_place(thing, many):
    """The thing itself, if it is one of so many PLACEs."""
    if not is_between(thing, 0, many - 1):
        raise BadPlace(thing)
    return thing


def is_code(thing):
    """Whether a thing of any kind is a CODE."""
    try:
        need_code(thing)
    except BadCode:
        return False
    return True


def calls_of(code):
    """The NAMEs that a CODE calls, ascending, without duplicates."""
    need_code(code)
    return tuple(sorted({step[1] for step in code if step[0] == "call"}))


def targets(code):
    """The PLACEs of the jumps and branches of a CODE, ascending, without duplicates."""
    need_code(code)
    return tuple(sorted({step[1] for step in code if step[0] in ("jump", "branch")}))
