import copy
import unittest

from helpers import STRANGE, is_plain
from model import Numbers, made
from test_rows import made as made_table
from test_tables import ALL_LOST, FULL, KEPT, LOST, SHORT
from unwindrows.codes import REGISTERS
from unwindrows.errors import BadCode, BadTable, BadText
from unwindrows.texts import code_text, read_code, read_table, table_text

CODE = (
    ("push", "p"), ("pop", "y"), ("grow", 64), ("shrink", 1), ("move", "x", "q"), ("point", "r", -64), ("setsp", "s", 0),
    ("work", "x"), ("store", "sp", -10, "p"), ("load", "r", "sp", -3), ("load", "p", "x", 9), ("call", "abcdefgh"),
    ("call", "push"), ("jump", 0), ("branch", 14), ("return",),
)
CODE_TEXT = """push p
pop y
grow 64
shrink 1
move x q
point r -64
setsp s 0
work x
store sp -10 p
load r sp -3
load p x 9
call abcdefgh
call push
jump 0
branch 14
return"""
TABLE = (
    (0, ("sp", 0), KEPT), (2, ("sp", 1), (("word", 0), ("word", -1), ("in", "q"), ("in", "r"), ("in", "s"))),
    (9, None, ALL_LOST), (10, ("y", -64), (("in", "x"), ("word", -64), LOST, LOST, ("in", "y"))),
    (59, ("p", 128), (("word", -9),) * 5),
)
TABLE_TEXT = """0 sp 0 0 p q r s
2 sp 1 0 -1 q r s
9 none lost lost lost lost lost
10 y -64 x -64 lost lost y
59 p 128 -9 -9 -9 -9 -9"""

# Words that are no integers by their form.
NOT_INTEGERS = (
    "00", "01", "007", "-0", "-00", "-01", "12345", "-12345", "10000", "+1", "--1", "-", "1-", "1.0", "1e1", "0x1",
    "1_0", "a", "p", "sp", "one", "None", "True", "\t1", "1\t", "1,", "~",
)
NOT_REGISTERS = ("sp", "t", "P", "pq", "0", "-", "none", "lost", "p,", "\tp")
NOT_BASES = ("t", "SP", "spp", "0", "none", "lost", "-sp", "P")
NOT_NAMES = ("abcdefghi", "F", "fG", "f1", "f_", "-", "0", "f-g", "f'", "~")
BAD = {"R": NOT_REGISTERS, "B": NOT_BASES, "N": NOT_INTEGERS, "NAME": NOT_NAMES}
GOOD = {
    "R": REGISTERS, "B": ("sp",) + REGISTERS, "N": ("0", "1", "-1", "9", "10", "64", "-64", "9999", "-9999", "1000"),
    "NAME": ("a", "z", "sp", "p", "lost", "none", "return", "abcdefgh"),
}
FORMS = {
    "push": ("R",), "pop": ("R",), "grow": ("N",), "shrink": ("N",), "move": ("R", "R"), "point": ("R", "N"),
    "setsp": ("R", "N"), "work": ("R",), "store": ("B", "N", "R"), "load": ("R", "B", "N"), "call": ("NAME",),
    "jump": ("N",), "branch": ("N",), "return": (),
}
# Around a line at the first, a middle and the last place.
AROUND = ((), ("work p",)), (("work p", "return"), ("return",)), (("return", "work p"), ())
ROW = "0 sp 0 0 p q r s"
AROUND_ROWS = ((), (ROW,)), ((ROW, ROW), (ROW,)), ((ROW, "9 none lost lost lost lost lost"), ())


class Texts(unittest.TestCase):
    def place_of(self, ask, text):
        """The line and the word of the BadText that a text raises, or None if its form is right."""
        try:
            ask(text)
        except BadText as error:
            return (error.line, error.word)
        except (BadCode, BadTable):
            return None
        return None

    def in_all_lines(self, ask, around, line, word):
        """The line is refused with this word, or None, wherever it stands."""
        for ahead, behind in around:
            text = "\n".join((*ahead, line, *behind))
            wanted = None if word is None else (len(ahead) + 1, word)
            self.assertEqual(self.place_of(ask, text), wanted, text)


class Codes(Texts):
    def line(self, line, word):
        self.in_all_lines(read_code, AROUND, line, word)

    def test_there_and_back(self):
        self.assertEqual(code_text(CODE), CODE_TEXT)
        self.assertEqual(read_code(CODE_TEXT), CODE)
        self.assertTrue(is_plain(read_code(CODE_TEXT)))
        self.assertIs(type(code_text(CODE)), str)
        self.assertEqual(code_text((("return",),)), "return")
        self.assertEqual(read_code("return"), (("return",),))

    def test_many_codes(self):
        numbers = Numbers(81)
        for _ in range(300):
            code = made(numbers, longest=60)
            text = code_text(code)
            self.assertEqual(read_code(text), code)
            self.assertEqual(text.count("\n"), len(code) - 1)
            self.assertNotIn("  ", text)

    def test_good_words(self):
        for kind, parts in FORMS.items():
            usual = [GOOD[part][0] for part in parts]
            for at, part in enumerate(parts):
                for word in GOOD[part]:
                    self.line(" ".join([kind, *usual[:at], word, *usual[at + 1:]]), None)

    def test_each_wrong_word(self):
        for kind, parts in FORMS.items():
            usual = [GOOD[part][0] for part in parts]
            for at, part in enumerate(parts):
                for word in BAD[part]:
                    self.line(" ".join([kind, *usual[:at], word, *usual[at + 1:]]), at + 2)
                    # What comes behind it does not matter.
                    self.line(" ".join([kind, *usual[:at], word, "?", "?", "?"]), at + 2)
                    self.line(" ".join([kind, *usual[:at], word]), at + 2)

    def test_wrong_first_words(self):
        for word in ("Push", "pull", "p", "0", "sp", "none", "end", "push,", "-", "pushp", "\tpush", "push\t"):
            self.line(word, 1)
            self.line(word + " p", 1)

    def test_words_too_many(self):
        for kind, parts in FORMS.items():
            usual = [kind] + [GOOD[part][0] for part in parts]
            for more in ("p", "0", "return", "?"):
                self.line(" ".join(usual + [more]), len(usual) + 1)
                self.line(" ".join(usual + [more, more]), len(usual) + 1)

    def test_words_missing(self):
        for kind, parts in FORMS.items():
            usual = [kind] + [GOOD[part][0] for part in parts]
            for many in range(1, len(usual)):
                self.line(" ".join(usual[:many]), many + 1)

    def test_empty_words(self):
        for line in ("", " ", "  ", " return", "return ", "  return", "push  p", "push p ", " push p", "push p  ", "store sp 0  p"):
            self.line(line, 0)
        # An empty word comes ahead of all else that is wrong in a line.
        for line in ("pull  p", "push ", "push  ", "push p p ", "grow  01", " ?"):
            self.line(line, 0)

    def test_empty_lines(self):
        self.assertEqual(self.place_of(read_code, ""), (1, 0))
        self.assertEqual(self.place_of(read_code, "\n"), (1, 0))
        self.assertEqual(self.place_of(read_code, "return\n"), (2, 0))
        self.assertEqual(self.place_of(read_code, "\nreturn"), (1, 0))
        self.assertEqual(self.place_of(read_code, "return\n\nreturn"), (2, 0))
        self.assertEqual(self.place_of(read_code, CODE_TEXT + "\n"), (17, 0))

    def test_the_first_line(self):
        self.assertEqual(self.place_of(read_code, "return\npush t\n\npull"), (2, 2))
        self.assertEqual(self.place_of(read_code, "return\n\npush t"), (2, 0))
        self.assertEqual(self.place_of(read_code, "pull\n\npush t"), (1, 1))

    def test_other_ends_of_lines(self):
        for sign in ("\r\n", "\r", "\t", "\x0b", "\x0c", "\u2028"):
            self.assertEqual(self.place_of(read_code, "return" + sign + "return"), (1, 1))

    def test_digits_of_other_scripts(self):
        for digit in ("\u0661", "\u00b2", "\uff11"):
            self.assertEqual(self.place_of(read_code, "grow " + digit), (1, 2))

    def test_what_is_no_string(self):
        for thing in (b"return", ["return"], ("return",), 0, (("return",),), *STRANGE):
            self.assertEqual(self.place_of(read_code, thing), (0, 0))

    def test_bad_codes_behind_all_forms(self):
        for text, place in (
            ("grow 0\nreturn", 0), ("return\ngrow 65", 1), ("return\ngrow -1", 1), ("point p 65", 0), ("point p -65", 0),
            ("jump 1", 0), ("jump -1", 0), ("return\nbranch 9999", 1), ("store sp 9999 p", 0), ("load p sp -9999", 0),
            ("\n".join(["return"] * 61), None), ("\n".join(["grow 0"] * 61), None),
        ):
            with self.assertRaises(BadCode) as caught:
                read_code(text)
            self.assertEqual(caught.exception.place, place)
        # A wrong form anywhere comes ahead of it.
        self.assertEqual(self.place_of(read_code, "grow 0\npull"), (2, 1))
        self.assertEqual(self.place_of(read_code, "\n".join(["return"] * 61 + ["pull"])), (62, 1))

    def test_what_is_no_code(self):
        for thing, place in ((None, None), ((), None), ([("return",)], None), ((("return",), None), 1), ((("grow", True),), 0)):
            with self.assertRaises(BadCode) as caught:
                code_text(thing)
            self.assertEqual(caught.exception.place, place)

    def test_by_name(self):
        self.assertEqual(code_text(code=CODE), CODE_TEXT)
        self.assertEqual(read_code(text=CODE_TEXT), CODE)


class Tables(Texts):
    WHERES = ("0", "-1", "-64", "9999", "-9999", "lost") + REGISTERS
    NOT_WHERES = ("sp", "none", "Lost", "t", "in", "word") + tuple(
        word for word in NOT_INTEGERS if word not in REGISTERS + ("sp",)
    )
    NOT_FINDINGS = ("None", "lost", "0", "t", "SP", "-")

    def line(self, line, word):
        self.in_all_lines(read_table, AROUND_ROWS, line, word)

    def test_there_and_back(self):
        self.assertEqual(table_text(TABLE), TABLE_TEXT)
        self.assertEqual(read_table(TABLE_TEXT), TABLE)
        self.assertTrue(is_plain(read_table(TABLE_TEXT)))
        self.assertIs(type(table_text(TABLE)), str)
        for table in (FULL, SHORT, ((0, None, ALL_LOST),)):
            self.assertEqual(read_table(table_text(table)), table)

    def test_many_tables(self):
        numbers = Numbers(82)
        for _ in range(300):
            table = made_table(numbers)
            self.assertEqual(read_table(table_text(table)), table)

    def test_good_words(self):
        for place in ("0", "9", "60", "-1", "9999", "-9999"):
            self.line(place + " none lost lost lost lost lost", None)
        for basis in ("sp",) + REGISTERS:
            for offset in GOOD["N"]:
                self.line(f"0 {basis} {offset} 0 p q r s", None)
        for at in range(5):
            for where in self.WHERES:
                sites = ["lost"] * at + [where] + ["lost"] * (4 - at)
                self.line("0 sp 0 " + " ".join(sites), None)
                self.line("0 none " + " ".join(sites), None)

    def test_each_wrong_word(self):
        for word in NOT_INTEGERS:
            self.line(word + " none lost lost lost lost lost", 1)
            self.line(word, 1)
            for basis in ("sp", "p", "y"):
                self.line(f"0 {basis} {word} 0 p q r s", 3)
                self.line(f"0 {basis} {word}", 3)
        for word in self.NOT_FINDINGS:
            self.line(f"0 {word} 0 0 p q r s", 2)
            self.line(f"0 {word}", 2)
        for at in range(5):
            for where in self.NOT_WHERES:
                sites = ["lost"] * at + [where] + ["lost"] * (4 - at)
                self.line("0 x 0 " + " ".join(sites), 4 + at)
                self.line("0 none " + " ".join(sites), 3 + at)
                self.line("0 none " + " ".join(sites[:at + 1]), 3 + at)

    def test_words_too_many_and_missing(self):
        for line in ("0 sp 0 0 p q r s", "0 y -3 lost lost lost lost lost", "0 none lost p q r s"):
            words = line.split(" ")
            self.line(line, None)
            for more in ("lost", "0", "p", "?"):
                self.line(f"{line} {more}", len(words) + 1)
                self.line(f"{line} {more} {more}", len(words) + 1)
            for many in range(1, len(words)):
                self.line(" ".join(words[:many]), many + 1)

    def test_a_word_that_is_a_basis(self):
        # It stands for a FINDING, so that one more word is to come.
        self.line("0 p q r s x y", 3)
        self.line("0 p 0 q r s x", 8)
        self.line("0 none 0 q r s x 0", 8)

    def test_empty_words(self):
        for line in ("", " ", ROW + " ", " " + ROW, "0  sp 0 0 p q r s", "0 none lost lost  lost lost", "x  ", "0 ", "? "):
            self.line(line, 0)
        self.assertEqual(self.place_of(read_table, ""), (1, 0))
        self.assertEqual(self.place_of(read_table, "\n"), (1, 0))
        self.assertEqual(self.place_of(read_table, ROW + "\n"), (2, 0))
        self.assertEqual(self.place_of(read_table, "\n" + ROW), (1, 0))

    def test_the_first_line(self):
        self.assertEqual(self.place_of(read_table, ROW + "\n1 none\n\n?"), (2, 3))
        self.assertEqual(self.place_of(read_table, ROW + "\n\n1 none"), (2, 0))

    def test_what_is_no_string(self):
        for thing in (TABLE, [ROW], b"0 none", 0, *STRANGE):
            self.assertEqual(self.place_of(read_table, thing), (0, 0))

    def test_bad_tables_behind_all_forms(self):
        rest = " none lost lost lost lost lost"
        for text, row in (
            ("1" + rest, 0), ("-1" + rest, 0), ("60" + rest, 0), ("0" + rest + "\n0" + rest, 1), ("0" + rest + "\n60" + rest, 1),
            ("0 sp 129 0 p q r s", 0), ("0 sp -65 0 p q r s", 0), ("0 sp 0 1 p q r s", 0), ("0 sp 0 -65 p q r s", 0),
            (ROW + "\n1 none 0 p q r s", 1), ("\n".join([str(k) + rest for k in range(61)]), None),
        ):
            with self.assertRaises(BadTable) as caught:
                read_table(text)
            self.assertEqual(caught.exception.row, row)
        self.assertEqual(self.place_of(read_table, "1" + rest + "\n2 none"), (2, 3))

    def test_what_is_no_table(self):
        for thing, row in ((None, None), ((), None), (list(TABLE), None), (TABLE + (None,), 5), (((0, None, KEPT),), 0)):
            with self.assertRaises(BadTable) as caught:
                table_text(thing)
            self.assertEqual(caught.exception.row, row)

    def test_by_name_and_arguments_stay(self):
        before = copy.deepcopy(TABLE)
        self.assertEqual(table_text(table=TABLE), TABLE_TEXT)
        self.assertEqual(read_table(text=TABLE_TEXT), TABLE)
        self.assertEqual(TABLE, before)


if __name__ == "__main__":
    unittest.main()
