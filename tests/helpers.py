"""What several tests use."""

from unwindrows.codes import REGISTERS

ANY = ("any",)
HOME = ("back", "", 0)


class Same:
    """A thing that equals everything, and so must not be taken for anything."""

    def __eq__(self, other):
        return True

    def __hash__(self):
        return 0


# Things that are no integers and no strings.
STRANGE = (None, True, False, (), [], {}, b"p", (0,), [0], {0: 0}, object(), Same(), int, ValueError)


def address(at):
    return ("word", 0, at)


def stop(place, sp, words=(), **held):
    """A STOP; registers and words that are not named are as at the beginning."""
    values = tuple(held.get(name, ("first", name)) for name in REGISTERS)
    known = {0: HOME}
    known.update(words)
    return (place, sp, values, tuple(sorted((at, known[at]) for at in known if known[at] != ANY)))


def straight(*steps):
    """The CODE of these INSTRUCTIONs with a return behind, and the PATH to this return."""
    return steps + (("return",),), tuple(range(len(steps) + 1))


def is_plain(thing):
    """Whether a thing consists of plain tuples, integers, strings and None."""
    if type(thing) is tuple:
        return all(is_plain(part) for part in thing)
    return thing is None or type(thing) in (int, str)


# The count of STOPs is 65 at each of PLACE 0, 1, 3 .. 29, 64 at PLACE 2, and at PLACE 30 that of
# the 65 places of sp from which it can be lowered further by so many.
def counted(lowered):
    """A CODE of 31 INSTRUCTIONs with 2,014 - lowered STOPs."""
    loop = (("branch", 3), ("push", "p"), ("jump", 0))
    return loop + (("work", "x"),) * 26 + (("grow", lowered), ("return",))


MANY = counted(14)
TOO_MANY = counted(13)
