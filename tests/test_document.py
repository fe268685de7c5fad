"""The sessions of point [95], each of which begins anew, as they stand in the document."""

import doctest
import unittest

RULES = """
>>> from unwindrows.rules import findings, wheres
>>> code = (("push", "p"), ("work", "p"), ("pop", "p"), ("return",))
>>> findings(code, 1), wheres(code, 1, "p"), wheres(code, 2, "p")
((('sp', 1),), (('in', 'p'), ('word', -1)), (('word', -1),))
"""

PAPERS = """
>>> from unwindrows.papers import check_clash, clash
>>> code = (("branch", 2), ("push", "p"), ("return",))
>>> clash(code, 2, "base"), check_clash(code, 2, "base", ((0, 1, 2), (0, 2)))
(((0, 1, 2), (0, 2)), True)
"""

SCRIPTS = """
>>> from unwindrows.scripts import expanded, size_of, written
>>> kept = (("word", 0), ("in", "p"), ("in", "q"), ("in", "r"), ("in", "s"))
>>> table = ((0, ("sp", 0), kept), (1, ("sp", 1), kept), (2, ("sp", 0), kept))
>>> size_of(written(table)), expanded(written(table)) == table
(5, True)
"""

UNWINDING = """
>>> from unwindrows.houses import Process
>>> from unwindrows.tables import least_table
>>> from unwindrows.unwinding import unwound
>>> f = (("grow", 2), ("call", "g"), ("shrink", 2), ("return",))
>>> g = (("push", "p"), ("work", "p"), ("pop", "p"), ("return",))
>>> process = Process((("f", f), ("g", g)))
>>> word = process.run(4)
>>> frames, end = unwound(process.picture(), {"f": least_table(f), "g": least_table(g)})
>>> word, frames, end
('on', (('g', 2, -3, (None, ('first', 'q'), ('first', 'r'), ('first', 's'))), ('f', 2, 0, (('first', 'p'), ('first', 'q'), ('first', 'r'), ('first', 's')))), 'out')
"""

TABLES = """
>>> from unwindrows.rules import ENTRY
>>> from unwindrows.tables import check_table, gaps, least_table
>>> code = (("push", "p"), ("work", "p"), ("pop", "p"), ("return",))
>>> e = ENTRY[1]
>>> kept, saved = (("word", 0), ("in", "p")) + e[2:], (("word", 0), ("word", -1)) + e[2:]
>>> table = ((0, ("sp", 0), e), (1, ("sp", 1), kept), (2, ("sp", 1), saved), (3, ("sp", 0), e))
>>> check_table(code, table), gaps(code, table), len(least_table(code))
(None, (), 3)
"""

TEXTS = """
>>> from unwindrows.texts import read_code, read_table, table_text
>>> read_code("push p\\nload r sp -3")
(('push', 'p'), ('load', 'r', 'sp', -3))
>>> table_text(((0, None, (("lost",),) * 5), *read_table("0 sp 0 0 p q r s\\n2 sp 1 0 -1 q r s")[1:])).split("\\n")[1]
'2 sp 1 0 -1 q r s'
"""


class Sessions(unittest.TestCase):
    def runs(self, session):
        parser, runner = doctest.DocTestParser(), doctest.DocTestRunner(verbose=False)
        told = []
        runner.run(parser.get_doctest(session, {}, "session", None, 0), out=told.append)
        self.assertEqual(runner.failures, 0, "".join(told))
        self.assertGreater(runner.tries, 1)

    def test_rules(self):
        self.runs(RULES)

    def test_papers(self):
        self.runs(PAPERS)

    def test_scripts(self):
        self.runs(SCRIPTS)

    def test_unwinding(self):
        self.runs(UNWINDING)

    def test_the_example_of_point_44(self):
        self.runs(TABLES)

    def test_the_examples_of_point_90(self):
        self.runs(TEXTS)


if __name__ == "__main__":
    unittest.main()
