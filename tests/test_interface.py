import importlib
import inspect
import unittest

FUNCTIONS = {
    "codes": {"need_code": ["thing"], "is_code": ["thing"], "calls_of": ["code"], "targets": ["code"]},
    "runs": {"run": ["code", "path"], "following": ["code", "path"], "breaking": ["code", "path"]},
}


class Interface(unittest.TestCase):
    def test_functions_and_their_arguments(self):
        for file, functions in FUNCTIONS.items():
            module = importlib.import_module(f"unwindrows.{file}")
            for name, parameters in functions.items():
                function = getattr(module, name)
                self.assertTrue(inspect.isfunction(function), name)
                self.assertEqual(function.__module__, module.__name__)
                told = inspect.signature(function).parameters
                self.assertEqual(list(told), parameters)
                for parameter in told.values():
                    self.assertEqual(parameter.kind, parameter.POSITIONAL_OR_KEYWORD)
                    self.assertIs(parameter.default, parameter.empty)


if __name__ == "__main__":
    unittest.main()
