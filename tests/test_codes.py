import unittest

from helpers import STRANGE
from unwindrows.codes import (
    MOST_CODE,
    MOST_WORDS,
    PRESERVED,
    REGISTERS,
    calls_of,
    is_code,
    need_code,
    targets,
)
from unwindrows.errors import BadCode

RETURN = ("return",)
WORK = ("work", "x")
NOT_REGISTERS = ("", "sp", "t", "P", "pq", "p ", " p", "\n", 0, 1, *STRANGE)
NOT_BASES = ("", "SP", "s p", "sp ", "base", "t", "P", 0, *STRANGE)
NOT_NAMES = ("", "abcdefghi", "F", "aB", "f1", "f g", "f\n", "f_", "'", "~", 0, *STRANGE)
NOT_OFFSETS = (-65, 65, -10 ** 999, 10 ** 999, "0", "", "sp", *STRANGE)
NOT_AMOUNTS = (0, -1, 65, 10 ** 999, "1", *STRANGE)
# In a CODE of three INSTRUCTIONs.
NOT_PLACES = (-1, 3, 60, 10 ** 999, "0", "f", *STRANGE)

REGISTER = (REGISTERS, NOT_REGISTERS)
BASIS = (("sp",) + REGISTERS, NOT_BASES)
OFFSET = ((-64, -63, -1, 0, 1, 63, 64), NOT_OFFSETS)
AMOUNT = ((1, 2, 63, 64), NOT_AMOUNTS)
PLACE = ((0, 1, 2), NOT_PLACES)
NAME = (("a", "z", "f", "abcdefgh", "zzzzzzzz", "push", "sp", "p"), NOT_NAMES)

# For each word its parts, each as a pair of good and bad things.
PARTS = {
    "push": (REGISTER,),
    "pop": (REGISTER,),
    "grow": (AMOUNT,),
    "shrink": (AMOUNT,),
    "move": (REGISTER, REGISTER),
    "point": (REGISTER, OFFSET),
    "setsp": (REGISTER, OFFSET),
    "work": (REGISTER,),
    "store": (BASIS, OFFSET, REGISTER),
    "load": (REGISTER, BASIS, OFFSET),
    "call": (NAME,),
    "jump": (PLACE,),
    "branch": (PLACE,),
    "return": (),
}


def around(instruction):
    """A CODE of three, with the INSTRUCTION in the middle."""
    return (WORK, instruction, RETURN)


def place_of(thing):
    """The place of the BadCode that a thing raises, or "none"."""
    try:
        need_code(thing)
    except BadCode as error:
        return error.place
    return "none"


class Constants(unittest.TestCase):
    def test_values(self):
        self.assertEqual(REGISTERS, ("p", "q", "r", "s", "x", "y"))
        self.assertEqual(PRESERVED, ("p", "q", "r", "s"))
        self.assertEqual((MOST_CODE, MOST_WORDS), (60, 64))


class Instructions(unittest.TestCase):
    def good(self, instruction):
        code = around(instruction)
        self.assertIs(need_code(code), code, instruction)
        self.assertIs(is_code(code), True, instruction)

    def bad(self, thing):
        self.assertEqual(place_of(around(thing)), 1, thing)
        self.assertIs(is_code(around(thing)), False, thing)

    def test_each_good_part_in_each_place(self):
        for word, parts in PARTS.items():
            usual = [part[0][0] for part in parts]
            self.good((word, *usual))
            for at, (good, _) in enumerate(parts):
                for thing in good:
                    self.good((word, *usual[:at], thing, *usual[at + 1:]))

    def test_each_bad_part_in_each_place(self):
        for word, parts in PARTS.items():
            usual = [part[0][0] for part in parts]
            for at, (_, bad) in enumerate(parts):
                for thing in bad:
                    self.bad((word, *usual[:at], thing, *usual[at + 1:]))

    def test_a_part_more_or_less(self):
        for word, parts in PARTS.items():
            usual = [part[0][0] for part in parts]
            for more in ("p", 0, None, ()):
                self.bad((word, *usual, more))
            if usual:
                self.bad((word, *usual[:-1]))
            self.bad(tuple(usual))

    def test_words_that_are_none(self):
        for word in ("", "Push", "push ", "pull", "end", "sp", "p", 0, *STRANGE):
            self.bad((word,))
            self.bad((word, "p"))

    def test_what_is_no_tuple(self):
        for thing in ("return", "push", 0, 1, ["return"], ["push", "p"], {"return": 1}, *STRANGE):
            self.bad(thing)

    def test_the_same_register_twice(self):
        self.good(("move", "p", "p"))
        self.good(("load", "x", "x", 0))
        self.good(("store", "x", 0, "x"))

    def test_places_depend_on_the_code(self):
        for word in ("jump", "branch"):
            self.assertEqual(place_of(((word, 0),)), "none")
            self.assertEqual(place_of(((word, 1),)), 0)
            long = (WORK,) * 59
            self.assertEqual(place_of(long + ((word, 59),)), "none")
            self.assertEqual(place_of(long + ((word, 60),)), 59)


class Codes(unittest.TestCase):
    def test_lengths(self):
        for many in (1, 2, 59, 60):
            self.assertEqual(place_of((RETURN,) * many), "none")
            self.assertIs(is_code((RETURN,) * many), True)
        for many in (0, 61, 1000):
            self.assertIsNone(place_of((RETURN,) * many))
            self.assertIs(is_code((RETURN,) * many), False)

    def test_a_wrong_length_comes_ahead_of_wrong_items(self):
        self.assertIsNone(place_of((None,) * 61))

    def test_what_is_no_tuple(self):
        strange = [thing for thing in STRANGE if not isinstance(thing, tuple)]
        for thing in ([RETURN], {0: RETURN}, {RETURN}, "return", "", 0, 60, *strange):
            self.assertIsNone(place_of(thing), thing)
            self.assertIs(is_code(thing), False, thing)

    def test_least_index_of_several(self):
        self.assertEqual(place_of((0, RETURN, 0)), 0)
        self.assertEqual(place_of((RETURN, WORK, ("grow", 0), ("jump", 9), None)), 2)
        self.assertEqual(place_of((WORK,) * 59 + ("return",)), 59)
        self.assertEqual(place_of(("return",)), 0)

    def test_deeply_nested_things(self):
        thing = ()
        for _ in range(49):
            thing = (thing,)
        self.assertEqual(place_of(thing), 0)

    def test_need_code_returns_the_thing_itself(self):
        code = tuple([WORK, RETURN])
        self.assertIs(need_code(code), code)
        self.assertIs(need_code(thing=code), code)


class Named(unittest.TestCase):
    def test_calls_of(self):
        code = (("call", "g"), ("call", "f"), ("jump", 0), ("call", "g"), ("call", "ab"), ("call", "a"))
        self.assertEqual(calls_of(code), ("a", "ab", "f", "g"))
        self.assertEqual(calls_of(code=code), ("a", "ab", "f", "g"))
        self.assertEqual(calls_of((RETURN,)), ())
        self.assertIs(type(calls_of(code)), tuple)

    def test_only_calls_are_calls(self):
        self.assertEqual(calls_of((("push", "p"), ("call", "push"), RETURN)), ("push",))

    def test_targets(self):
        code = (("jump", 5), ("branch", 3), ("jump", 3), ("branch", 5), ("branch", 0), ("grow", 2))
        self.assertEqual(targets(code), (0, 3, 5))
        self.assertEqual(targets(code=code), (0, 3, 5))
        self.assertEqual(targets((RETURN,)), ())
        self.assertIs(type(targets(code)), tuple)

    def test_targets_ascend_as_numbers(self):
        code = (("jump", 10), ("jump", 9), ("jump", 2)) + (RETURN,) * 8
        self.assertEqual(targets(code), (2, 9, 10))

    def test_what_is_no_code(self):
        for ask in (calls_of, targets, need_code):
            for thing, place in ((None, None), ((), None), ([RETURN], None), ((RETURN, "f"), 1), ((("jump", 1),), 0)):
                with self.assertRaises(BadCode) as caught:
                    ask(thing)
                self.assertEqual(caught.exception.place, place)

    def test_arguments_stay(self):
        code = (("call", "g"), ("call", "f"), ("branch", 1), ("jump", 0))
        shown = repr(code)
        self.assertEqual(calls_of(code), calls_of(code))
        self.assertEqual(targets(code), targets(code))
        self.assertEqual(repr(code), shown)


if __name__ == "__main__":
    unittest.main()
