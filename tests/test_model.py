"""Compares runs with a second model, written from points [20] to [24] alone, over many CODEs."""

import unittest

from model import Numbers, made, modelled
from unwindrows.codes import need_code
from unwindrows.errors import BadPath
from unwindrows.runs import breaking, following, run


class Model(unittest.TestCase):
    def walk(self, code, numbers):
        path = (0,)
        for _ in range(30):
            told = (run(code, path), following(code, path), breaking(code, path))
            self.assertEqual(told, modelled(code, path), (code, path))
            for place in range(-1, len(code) + 1):
                if place not in told[1]:
                    with self.assertRaises(BadPath) as caught:
                        run(code, path + (place,))
                    self.assertEqual(caught.exception.index, len(path))
            if not told[1]:
                return told[2]
            path += (numbers.one_of(told[1]),)
        return ("on",)

    def test_many_codes(self):
        numbers = Numbers(11)
        ends = {}
        for _ in range(1500):
            code = need_code(made(numbers))
            end = self.walk(code, numbers)
            ends[end] = ends.get(end, 0) + 1
        for end in ((), ("on",), ("sp",), ("wild",), ("return",), ("end",)):
            self.assertGreater(ends.get(end, 0), 20, end)


if __name__ == "__main__":
    unittest.main()
