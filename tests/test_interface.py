import importlib
import inspect
import unittest

FUNCTIONS = {
    "codes": {"need_code": ["thing"], "is_code": ["thing"], "calls_of": ["code"], "targets": ["code"]},
    "runs": {"run": ["code", "path"], "following": ["code", "path"], "breaking": ["code", "path"]},
    "states": {"count_stops": ["code"], "stops_at": ["code", "place"], "faults": ["code"], "is_sound": ["code"]},
    "rules": {"holds": ["rule", "stop"], "findings": ["code", "place"], "wheres": ["code", "place", "item"]},
    "tables": {
        "need_table": ["thing"], "rule_at": ["table", "place"], "check_table": ["code", "table"],
        "gaps": ["code", "table"], "least_table": ["code"],
    },
    "papers": {"clash": ["code", "place", "part"], "check_clash": ["code", "place", "part", "paths"]},
    "scripts": {"need_script": ["thing"], "expanded": ["groups"], "size_of": ["groups"], "written": ["table"]},
    "houses": {"need_house": ["thing"]},
    "unwinding": {"unwound": ["picture", "tables"], "count_known": ["frames"]},
    "texts": {"code_text": ["code"], "read_code": ["text"], "table_text": ["table"], "read_table": ["text"]},
    "books": {"under": ["manager", "deed"]},
}
CONSTANTS = {
    "codes": {"REGISTERS": tuple, "PRESERVED": tuple, "MOST_CODE": int, "MOST_WORDS": int},
    "states": {"MOST_STOPS": int},
    "rules": {"ITEMS": tuple, "ENTRY": tuple},
    "houses": {"MOST_CALLS": int},
}
# Each class with its methods, which are defined in the class itself, and with their arguments.
CLASSES = {
    "rows": {
        "Rows": {
            "__init__": "(self, table)", "__getitem__": "(self, at)", "__len__": "(self)", "__eq__": "(self, other)",
            "__and__": "(self, other)", "__contains__": "(self, x)", "table": "(self)", "told": "(self, place)",
            "changes": "(self)", "is_within": "(self, other)",
        },
    },
    "houses": {
        "Process": {
            "__init__": "(self, house)", "step": "(self, take=False)", "run": "(self, steps, takes=())",
            "picture": "(self)", "calls": "(self)",
        },
    },
    "books": {
        "Book": {
            "__init__": "(self)", "__getitem__": "(self, at)", "__setitem__": "(self, at, worth)",
            "__contains__": "(self, x)", "__len__": "(self)", "__eq__": "(self, other)", "forget": "(self, name)",
            "names": "(self)", "table": "(self, name)", "found": "(self)", "trial": "(self)",
        },
    },
}


class Interface(unittest.TestCase):
    def test_functions_and_their_arguments(self):
        for file, functions in FUNCTIONS.items():
            module = importlib.import_module(f"unwindrows.{file}")
            for name, parameters in functions.items():
                function = getattr(module, name)
                self.assertTrue(inspect.isfunction(function), name)
                self.assertEqual(function.__module__, module.__name__)
                told = inspect.signature(function).parameters
                self.assertEqual(list(told), parameters)
                for parameter in told.values():
                    self.assertEqual(parameter.kind, parameter.POSITIONAL_OR_KEYWORD)
                    self.assertIs(parameter.default, parameter.empty)

    def test_constants(self):
        for file, constants in CONSTANTS.items():
            module = importlib.import_module(f"unwindrows.{file}")
            for name, kind in constants.items():
                self.assertIs(type(getattr(module, name)), kind, name)

    def test_classes(self):
        for file, classes in CLASSES.items():
            module = importlib.import_module(f"unwindrows.{file}")
            for name, methods in classes.items():
                made = getattr(module, name)
                self.assertEqual((made.__module__, made.__bases__), (module.__name__, (object,)))
                for method, signature in methods.items():
                    self.assertEqual(str(inspect.signature(vars(made)[method])), signature, f"{name}.{method}")


if __name__ == "__main__":
    unittest.main()
