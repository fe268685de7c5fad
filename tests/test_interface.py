import importlib
import inspect
import unittest

FUNCTIONS = {
    "codes": {"need_code": ["thing"], "is_code": ["thing"], "calls_of": ["code"], "targets": ["code"]},
    "runs": {"run": ["code", "path"], "following": ["code", "path"], "breaking": ["code", "path"]},
    "states": {"count_stops": ["code"], "stops_at": ["code", "place"], "faults": ["code"], "is_sound": ["code"]},
    "rules": {"holds": ["rule", "stop"], "findings": ["code", "place"], "wheres": ["code", "place", "item"]},
    "tables": {
        "need_table": ["thing"], "rule_at": ["table", "place"], "check_table": ["code", "table"],
        "gaps": ["code", "table"], "least_table": ["code"],
    },
    "papers": {"clash": ["code", "place", "part"], "check_clash": ["code", "place", "part", "paths"]},
    "scripts": {"need_script": ["thing"], "expanded": ["groups"], "size_of": ["groups"], "written": ["table"]},
}
CONSTANTS = {
    "codes": {"REGISTERS": tuple, "PRESERVED": tuple, "MOST_CODE": int, "MOST_WORDS": int},
    "states": {"MOST_STOPS": int},
    "rules": {"ITEMS": tuple, "ENTRY": tuple},
}


class Interface(unittest.TestCase):
    def test_functions_and_their_arguments(self):
        for file, functions in FUNCTIONS.items():
            module = importlib.import_module(f"unwindrows.{file}")
            for name, parameters in functions.items():
                function = getattr(module, name)
                self.assertTrue(inspect.isfunction(function), name)
                self.assertEqual(function.__module__, module.__name__)
                told = inspect.signature(function).parameters
                self.assertEqual(list(told), parameters)
                for parameter in told.values():
                    self.assertEqual(parameter.kind, parameter.POSITIONAL_OR_KEYWORD)
                    self.assertIs(parameter.default, parameter.empty)

    def test_constants(self):
        for file, constants in CONSTANTS.items():
            module = importlib.import_module(f"unwindrows.{file}")
            for name, kind in constants.items():
                self.assertIs(type(getattr(module, name)), kind, name)


if __name__ == "__main__":
    unittest.main()
