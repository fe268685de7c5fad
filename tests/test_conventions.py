"""Points [1] and [2] over the whole program: each function of the interface is asked in all ways."""

import copy
import importlib
import itertools
import unittest

from helpers import MANY, STRANGE, TOO_MANY, is_plain
from test_interface import FUNCTIONS
from unwindrows import errors
from unwindrows.books import Book
from unwindrows.houses import Process
from unwindrows.rows import Rows
from unwindrows.rules import ENTRY
from unwindrows.scripts import written
from unwindrows.tables import least_table
from unwindrows.unwinding import count_known, unwound

PAIR = (("push", "p"), ("work", "p"), ("pop", "p"), ("return",))
FORK = (("branch", 2), ("push", "p"), ("return",))
TABLE = least_table(PAIR)
HOUSE = (("f", (("grow", 2), ("call", "g"), ("shrink", 2), ("return",))), ("g", PAIR))


def picture():
    process = Process(HOUSE)
    process.run(4)
    return process.picture()


TABLES = {name: least_table(code) for name, code in HOUSE}
FRAMES = [("f", 0, 0, (("first", "p"), None, None, None))]
# Good arguments for each function.
ASKED = {
    "need_code": (PAIR,), "is_code": ([PAIR, [0]],), "calls_of": (HOUSE[0][1],), "targets": (FORK,),
    "run": (FORK, (0, 1, 2)), "following": (FORK, (0,)), "breaking": (FORK, (0, 1, 2)),
    "count_stops": (FORK,), "stops_at": (FORK, 2), "faults": (FORK,), "is_sound": (FORK,),
    "holds": (ENTRY, (0, 0, (("first", "p"),) * 6, ())), "findings": (PAIR, 1), "wheres": (PAIR, 1, "p"),
    "need_table": (TABLE,), "rule_at": (TABLE, 3), "check_table": (PAIR, ((0,) + ENTRY,)), "gaps": (PAIR, ((0,) + ENTRY,)),
    "least_table": (FORK,), "clash": (FORK, 2, "base"), "check_clash": (FORK, 2, "base", ((0, 1, 2), (0, 2))),
    "need_script": (written(TABLE),), "expanded": (written(TABLE),), "size_of": (written(TABLE),), "written": (TABLE,),
    "need_house": (HOUSE,), "unwound": (picture(), TABLES), "count_known": (FRAMES,),
    "code_text": (FORK,), "read_code": ("push p\nreturn",), "table_text": (TABLE,), "read_table": ("0 sp 0 0 p q r s",),
    "under": (Book().trial(), len),
}
# Bad arguments: for each kind the exception.
BAD = {
    "code": (errors.BadCode, ((), [PAIR], (("grow", 0),), None, 0, *STRANGE[:3])),
    "path": (errors.BadPath, ((), [0], (1,), None, (0, True))),
    "place": (errors.BadPlace, (-1, 60, "0", None, True, [])),
    "item": (errors.BadItem, ("base", "x", None, 0, [])),
    "part": (errors.BadItem, ("x", "sp", None, 0, [])),
    "table": (errors.BadTable, ((), [TABLE], (None,), None, ((0, None, ENTRY[1]),))),
    "paths": (errors.BadPaper, ([], None, (), ((0,),))),
    "groups": (errors.BadScript, ((), [0], None, ((0, True, (), 0),))),
    "text": (errors.BadText, (None, b"return", "", " ", "?", 0)),
}
# What "thing" is for each need function.
NEEDS = {"need_code": "code", "need_table": "table", "need_script": "groups"}


def functions():
    for file, listed in FUNCTIONS.items():
        module = importlib.import_module(f"unwindrows.{file}")
        for name, parameters in listed.items():
            yield name, getattr(module, name), parameters


class Good(unittest.TestCase):
    def test_each_function_is_asked(self):
        self.assertEqual(sorted(name for name, _, _ in functions()), sorted(ASKED))

    def test_by_position_and_by_name_in_any_order(self):
        for name, function, parameters in functions():
            arguments = ASKED[name]
            told = function(*arguments)
            for order in itertools.permutations(range(len(parameters))):
                named = {parameters[k]: arguments[k] for k in order}
                self.assertEqual(function(**named), told, name)
            for many in range(len(parameters)):
                named = dict(list(zip(parameters, arguments))[many:])
                self.assertEqual(function(*arguments[:many], **named), told, name)

    def test_arguments_stay_and_equal_calls_are_equal(self):
        for name, function, _ in functions():
            if name != "under":
                arguments = ASKED[name]
                before = copy.deepcopy(arguments)
                told = function(*arguments)
                self.assertEqual(function(*before), told, name)
                self.assertEqual(function(*arguments), told, name)
                self.assertEqual(arguments, before, name)

    def test_what_is_returned_may_be_changed(self):
        for name, function, _ in functions():
            told = function(*ASKED[name])
            before = copy.deepcopy(told)
            if isinstance(told, list):
                told.clear()
            elif isinstance(told, dict):
                told["end"] = None
            self.assertEqual(function(*ASKED[name]), before, name)

    def test_what_is_passed_may_be_changed_later(self):
        tables, frames, takes = dict(TABLES), list(FRAMES), [True]
        told = unwound(picture(), tables)
        tables.clear()
        self.assertEqual(told, unwound(picture(), TABLES))
        count_known(frames)
        frames.clear()
        process = Process((("f", (("branch", 0), ("return",))),))
        process.run(1, takes)
        takes[0] = False
        self.assertEqual(process.picture()[1], 0)

    def test_plain_things(self):
        for name, function, _ in functions():
            told = function(*ASKED[name])
            if isinstance(told, (list, dict)):
                self.assertIn(type(told), (list, dict))
            elif name not in ("under", "is_code") and not isinstance(told, bool):
                self.assertTrue(is_plain_or_bool(told), name)


def is_plain_or_bool(thing):
    if type(thing) is tuple:
        return all(is_plain_or_bool(part) for part in thing)
    return is_plain(thing) or type(thing) is bool


class Wrong(unittest.TestCase):
    def kinds(self, name, parameters):
        return [NEEDS.get(name, "") if each == "thing" else each for each in parameters]

    def test_each_wrong_argument(self):
        for name, function, parameters in functions():
            for k, kind in enumerate(self.kinds(name, parameters)):
                if kind in BAD:
                    error, things = BAD[kind]
                    for thing in things:
                        arguments = list(ASKED[name])
                        arguments[k] = thing
                        with self.assertRaises(errors.UnwindError, msg=(name, thing)) as caught:
                            function(*arguments)
                        self.assertIs(type(caught.exception), error, (name, thing))

    def test_the_first_wrong_argument_counts(self):
        for name, function, parameters in functions():
            kinds = self.kinds(name, parameters)
            wrong = [k for k, kind in enumerate(kinds) if kind in BAD]
            for some in itertools.chain.from_iterable(itertools.combinations(wrong, many) for many in (2, 3, 4)):
                for things in itertools.product(*[BAD[kinds[k]][1][:4] for k in some]):
                    arguments = list(ASKED[name])
                    for k, thing in zip(some, things):
                        arguments[k] = thing
                    with self.assertRaises(errors.UnwindError) as caught:
                        function(*arguments)
                    self.assertIs(type(caught.exception), BAD[kinds[some[0]]][0], (name, arguments))

    def test_too_many_stops(self):
        """All functions for which the interface lists it raise it, and not at 2,000."""
        asked = {
            "count_stops": (), "stops_at": (0,), "faults": (), "is_sound": (), "findings": (0,), "wheres": (0, "p"),
            "check_table": (((0,) + ENTRY,),), "gaps": (((0,) + ENTRY,),), "least_table": (), "clash": (0, "base"),
        }
        for name, function, parameters in functions():
            if name in asked:
                function(MANY, *asked[name])
                with self.assertRaises(errors.TooMany) as caught:
                    function(TOO_MANY, *asked[name])
                self.assertEqual(caught.exception.most, 2000)
                # All that can be wrong with the arguments comes ahead of it.
                for k, kind in enumerate(parameters[1:]):
                    rest = list(asked[name])
                    rest[k] = BAD[kind][1][0]
                    with self.assertRaises(BAD[kind][0]):
                        function(TOO_MANY, *rest)
        for ask in ("need_code", "is_code", "calls_of", "targets", "code_text"):
            for name, function, _ in functions():
                if name == ask:
                    function(TOO_MANY)
        for name, function, _ in functions():
            if name in ("run", "following", "breaking"):
                function(TOO_MANY, (0, 1))

    def test_classes(self):
        for thing in BAD["table"][1]:
            with self.assertRaises(errors.BadTable):
                Rows(thing)
        for thing in ((), [HOUSE], None, (("f", ()),)):
            with self.assertRaises(errors.BadHouse):
                Process(house=thing)


if __name__ == "__main__":
    unittest.main()
