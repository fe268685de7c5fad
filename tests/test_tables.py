import copy
import unittest

from helpers import MANY, STRANGE, TOO_MANY, is_plain
from unwindrows.codes import REGISTERS
from unwindrows.errors import BadCode, BadPlace, BadTable, TooMany
from unwindrows.tables import check_table, gaps, least_table, need_table, rule_at

KEPT = (("word", 0), ("in", "p"), ("in", "q"), ("in", "r"), ("in", "s"))
LOST = ("lost",)
ALL_LOST = (LOST,) * 5
E = (0, ("sp", 0), KEPT)
PAIR = (("push", "p"), ("work", "p"), ("pop", "p"), ("return",))
FORK = (("branch", 2), ("push", "p"), ("return",))
SAVED = (("word", 0), ("word", -1)) + KEPT[2:]
FULL = (E, (1, ("sp", 1), KEPT), (2, ("sp", 1), SAVED), (3, ("sp", 0), KEPT))
SHORT = (E, (1, ("sp", 1), SAVED), (3, ("sp", 0), KEPT))

NOT_FINDINGS = (
    "sp", ("sp",), ("sp", 0, 0), ["sp", 0], ("sp", -65), ("sp", 129), ("sp", True), ("sp", False), ("sp", "0"),
    ("sp", None), ("t", 0), ("", 0), ("SP", 0), (0, "sp"), (None, 0), (("sp",), 0), ("p", 10 ** 999),
    ("lost",), ("word", 0), ("in", "p"), 0,
)
NOT_WHERES = (
    "lost", ("lost", 0), ("lost", "p"), ["lost"], ("Lost",), ("word",), ("word", 1), ("word", -65), ("word", 0, 0),
    ("word", False), ("word", True), ("word", "0"), ("word", "p"), ("word", -10 ** 999), ["word", 0], ("in",),
    ("in", "sp"), ("in", "t"), ("in", ""), ("in", 0), ("in", None), ("in", "p", "q"), ["in", "p"], ("in", ("p",)),
    ("sp", 0), ("p", 0), ("", 0), (None,), (0,), ((),), ("word", -1, "p"), 0, 1, "p",
)


def row_of(thing):
    """The row of the BadTable that a thing raises, or "none"."""
    try:
        need_table(thing)
    except BadTable as error:
        return error.row
    return "none"


class Tables(unittest.TestCase):
    def good(self, table):
        self.assertIs(need_table(table), table)

    def bad(self, thing, row):
        self.assertEqual(row_of(thing), row, thing)

    def test_example(self):
        self.good(FULL)
        self.good(SHORT)
        self.good((E,))
        self.assertIs(need_table(thing=FULL), FULL)

    def test_how_many_rows(self):
        rows = tuple((place, ("sp", 0), KEPT) for place in range(60))
        for many in (1, 2, 59, 60):
            self.good(rows[:many])
        for thing in ((), rows + ((60, ("sp", 0), KEPT),), rows + (E,), (E,) * 61, (None,) * 61):
            self.bad(thing, None)

    def test_what_is_no_tuple(self):
        strange = [thing for thing in STRANGE if not isinstance(thing, tuple)]
        for thing in ([E], {0: E}, "table", E[0], "", 0, 1, *strange):
            self.bad(thing, None)
        # A row alone is a tuple of three things, and the first one is no row.
        self.bad(E, 0)

    def test_what_is_no_row(self):
        rows = (list(E), E[:2], E + (0,), (0, (("sp", 0), KEPT)), "row", 0, *STRANGE)
        for thing in rows:
            self.bad((thing,), 0)
            self.bad((E, thing, (2, None, ALL_LOST)), 1)

    def test_places(self):
        self.good((E, (1, None, ALL_LOST), (59, None, ALL_LOST)))
        self.good((E, (59, None, ALL_LOST)))
        for place in (1, 59, -1, 60, 10 ** 999, "0", *STRANGE):
            self.bad(((place, None, ALL_LOST),), 0)
        for place in (0, 3, 5, 60, 61, -1, 10 ** 999, "6", *STRANGE):
            self.bad((E, (5, None, ALL_LOST), (place, None, ALL_LOST), (59, None, ALL_LOST)), 2)

    def test_places_ascend_as_they_are_met(self):
        self.bad((E, (7, None, ALL_LOST), (7, None, ALL_LOST), (1, None, ALL_LOST)), 2)
        self.bad((E, E), 1)
        self.bad((E, (2, None, ALL_LOST), (1, None, ALL_LOST)), 2)

    def test_findings(self):
        for basis in ("sp",) + REGISTERS:
            for offset in (-64, -63, 0, 127, 128):
                self.good(((0, (basis, offset), KEPT),))
        self.good(((0, None, ALL_LOST),))
        strange = [thing for thing in STRANGE if thing is not None]
        for thing in (*NOT_FINDINGS, *strange):
            self.bad(((0, thing, ALL_LOST),), 0)
            self.bad((E, (3, thing, ALL_LOST), (3, None, ALL_LOST)), 1)

    def test_each_where(self):
        good = [("in", name) for name in REGISTERS] + [("word", at) for at in (-64, -63, -1, 0)] + [LOST]
        for k in range(5):
            for where in good:
                self.good(((0, ("sp", 0), KEPT[:k] + (where,) + KEPT[k + 1:]),))
            for where in (*NOT_WHERES, *STRANGE):
                self.bad(((0, ("sp", 0), KEPT[:k] + (where,) + KEPT[k + 1:]),), 0)
                self.bad((E, (9, ("sp", 0), ALL_LOST[:k] + (where,) + ALL_LOST[k + 1:])), 1)

    def test_how_many_wheres(self):
        for sites in (KEPT[:4], KEPT + (LOST,), (), list(KEPT), dict(enumerate(KEPT)), "pqrst", 5, *STRANGE):
            self.bad(((0, ("sp", 0), sites),), 0)
            self.bad((E, (1, ("sp", 0), sites)), 1)

    def test_words_only_beside_a_finding(self):
        for k in range(5):
            for at in (0, -1, -64):
                sites = ALL_LOST[:k] + (("word", at),) + ALL_LOST[k + 1:]
                self.good(((0, ("sp", 0), sites),))
                self.bad(((0, None, sites),), 0)
                self.bad((E, (1, None, sites)), 1)
            for name in REGISTERS:
                self.good(((0, None, ALL_LOST[:k] + (("in", name),) + ALL_LOST[k + 1:]),))

    def test_least_index_of_several(self):
        self.bad((E, (1, None, KEPT), (1, None, ALL_LOST), None), 1)
        self.bad((None, None), 0)
        self.bad((E, (60, None, ALL_LOST), None), 1)


class RuleAt(unittest.TestCase):
    TABLE = (E, (3, None, ALL_LOST), (4, ("x", 1), KEPT), (58, ("y", -64), ALL_LOST))

    def test_each_place(self):
        for place in range(60):
            wanted = self.TABLE[3] if place >= 58 else self.TABLE[2] if place >= 4 else self.TABLE[1] if place == 3 else E
            self.assertEqual(rule_at(self.TABLE, place), wanted[1:])

    def test_one_row(self):
        for place in (0, 1, 59):
            self.assertEqual(rule_at((E,), place), (("sp", 0), KEPT))

    def test_the_last_place(self):
        table = (E, (59, None, ALL_LOST))
        self.assertEqual(rule_at(table, 58), (("sp", 0), KEPT))
        self.assertEqual(rule_at(table, 59), (None, ALL_LOST))

    def test_what_is_no_place(self):
        for thing in (-1, 60, 61, 10 ** 999, "0", *STRANGE):
            with self.assertRaises(BadPlace) as caught:
                rule_at(self.TABLE, thing)
            self.assertIs(caught.exception.value, thing)

    def test_a_wrong_table_comes_first(self):
        for table, row in ((None, None), ((), None), ([E], None), ((E, E), 1), ((self.TABLE[1],), 0)):
            for place in (0, 60, None, True):
                with self.assertRaises(BadTable) as caught:
                    rule_at(table, place)
                self.assertEqual(caught.exception.row, row)

    def test_by_name_and_plain(self):
        self.assertEqual(rule_at(place=3, table=self.TABLE), (None, ALL_LOST))
        self.assertTrue(is_plain(rule_at(self.TABLE, 4)))


def changed(table, at, part, what):
    """A TABLE with another FINDING or WHERE in the row at an index."""
    place, finding, sites = table[at]
    if part == "base":
        finding = what
    else:
        k = ("back", "p", "q", "r", "s").index(part)
        sites = sites[:k] + (what,) + sites[k + 1:]
    return table[:at] + ((place, finding, sites),) + table[at + 1:]


class Checking(unittest.TestCase):
    def test_right_tables(self):
        for table in (FULL, SHORT, ((0, None, ALL_LOST),), (E, (1, None, ALL_LOST))):
            self.assertIsNone(check_table(PAIR, table))
        self.assertIsNone(check_table((("return",),), (E,)))
        self.assertIsNone(check_table(FORK, (E, (2, None, (LOST,) + KEPT[1:]))))

    def test_each_part(self):
        path = (0, 1, 2)
        self.assertEqual(check_table(PAIR, changed(FULL, 2, "base", ("sp", 0))), (path, "base"))
        self.assertEqual(check_table(PAIR, changed(FULL, 2, "base", ("p", 1))), (path, "base"))
        for item, what in (
            ("back", ("word", -1)), ("back", ("in", "x")), ("p", ("in", "p")), ("p", ("word", 0)), ("p", ("word", -2)),
            ("q", ("in", "r")), ("r", ("word", -64)), ("s", ("in", "y")),
        ):
            self.assertEqual(check_table(PAIR, changed(FULL, 2, item, what)), (path, item))

    def test_findings_in_registers(self):
        for name in REGISTERS:
            for grown, offset, finding in ((1, 0, 1), (1, 3, -2), (5, -5, 10), (64, -64, 128), (1, 64, -63)):
                code = (("grow", grown), ("point", name, offset), ("return",))
                rows = ((0, None, ALL_LOST), (2, (name, finding), ALL_LOST))
                self.assertIsNone(check_table(code, rows))
                for other in (finding - 1, finding + 1, -finding, 0):
                    if -64 <= other <= 128:
                        wrong = changed(rows, 1, "base", (name, other))
                        self.assertEqual(check_table(code, wrong), ((0, 1, 2), "base"))
            code = (("point", name, 64), ("return",))
            self.assertIsNone(check_table(code, ((0, None, ALL_LOST), (1, (name, -64), ALL_LOST))))

    def test_findings_that_hold_nowhere(self):
        for offset in (-64, -1, 65, 128):
            self.assertEqual(check_table(PAIR, ((0, ("sp", offset), KEPT),)), ((0,), "base"))

    def test_the_first_wrong_part(self):
        wrong = (("word", -9),) * 5
        self.assertEqual(check_table(PAIR, ((0, ("sp", 7), wrong),)), ((0,), "base"))
        self.assertEqual(check_table(PAIR, ((0, ("sp", 0), wrong),)), ((0,), "back"))
        self.assertEqual(check_table(PAIR, ((0, ("sp", 0), KEPT[:1] + wrong[1:]),)), ((0,), "p"))
        self.assertEqual(check_table(PAIR, ((0, ("sp", 0), KEPT[:3] + wrong[3:]),)), ((0,), "r"))
        self.assertEqual(check_table(PAIR, ((0, ("sp", 0), (LOST,) * 4 + wrong[4:]),)), ((0,), "s"))

    def test_the_first_path(self):
        # PLACE 2 is met ahead of PLACE 1, and a shorter PATH comes ahead of a lesser one.
        self.assertEqual(check_table(FORK, (E, (2, ("sp", 9), KEPT))), ((0, 2), "base"))
        self.assertEqual(check_table(FORK, (E,)), ((0, 1, 2), "base"))
        self.assertEqual(check_table(FORK, (E, (2, ("sp", 1), KEPT))), ((0, 2), "base"))
        code = (("branch", 3), ("work", "p"), ("jump", 5), ("work", "p"), ("jump", 5), ("return",))
        lost = changed((E,), 0, "p", LOST)
        self.assertEqual(check_table(code, (E, (2, *lost[0][1:]), (5, *E[1:]))), ((0, 1, 2, 5), "p"))
        self.assertEqual(check_table(code, (E, (2, *lost[0][1:]), (4, *E[1:]), (5, *lost[0][1:]))), ((0, 3, 4), "p"))
        self.assertIsNone(check_table(code, (E, (2, *lost[0][1:]), (3, *E[1:]), (4, *lost[0][1:]))))

    def test_a_stop_that_a_loop_leads_to(self):
        code = (("branch", 3), ("push", "p"), ("jump", 0), ("return",))
        self.assertEqual(check_table(code, (E,)), ((0, 1, 2), "base"))
        skipped = (E, (2, None, ALL_LOST), (3, None, ALL_LOST))
        self.assertEqual(check_table(code, skipped), ((0, 1, 2, 0), "base"))

    def test_places_at_which_no_run_stops_do_not_matter(self):
        code = (("jump", 2), ("push", "p"), ("return",))
        self.assertIsNone(check_table(code, (E, (1, ("x", 3), (("word", -3),) * 5), (2, *E[1:]))))
        self.assertEqual(check_table(code, (E, (1, ("x", 3), (("word", -3),) * 5))), ((0, 2), "base"))

    def test_rows_behind_the_code(self):
        for ask in (check_table, gaps):
            for table, row in (
                (FULL + ((4, ("sp", 0), KEPT),), 4), ((E, (59, None, ALL_LOST)), 1), ((E, (4, None, ALL_LOST), None), 1),
            ):
                with self.assertRaises(BadTable) as caught:
                    ask(PAIR, table)
                self.assertEqual(caught.exception.row, row)
            with self.assertRaises(BadTable) as caught:
                ask((("return",),), (E, (1, None, ALL_LOST)))
            self.assertEqual(caught.exception.row, 1)
        self.assertIsNone(check_table((("work", "x"),) * 60, (E, (59, None, ALL_LOST))))

    def test_plain(self):
        self.assertTrue(is_plain(check_table(FORK, (E,))))


class Gaps(unittest.TestCase):
    def test_full_tables(self):
        for table in (FULL, SHORT):
            self.assertEqual(gaps(PAIR, table), ())

    def test_all_of_them_in_their_order(self):
        each = ("base", "back", "p", "q", "r", "s")
        self.assertEqual(
            gaps(PAIR, ((0, None, ALL_LOST),)), tuple((place, part) for place in range(4) for part in each)
        )
        self.assertEqual(gaps(PAIR, FULL[:1] + ((1, ("sp", 1), ALL_LOST),) + FULL[2:]), tuple((1, k) for k in each[1:]))

    def test_each_part(self):
        self.assertEqual(gaps(PAIR, ((0, None, (LOST,) + KEPT[1:]),) + FULL[1:]), ((0, "base"), (0, "back")))
        for item in ("back", "p", "q", "r", "s"):
            self.assertEqual(gaps(PAIR, changed(FULL, 2, item, LOST)), ((2, item),))
            self.assertEqual(gaps(PAIR, changed(SHORT, 1, item, LOST)), ((1, item), (2, item)))

    def test_what_is_told_need_not_be_right(self):
        self.assertEqual(gaps(PAIR, ((0, ("x", 9), (("word", -9),) * 5),)), ())

    def test_what_cannot_be_told_is_no_gap(self):
        # Nothing finds the base at PLACE 2, so that word 0 is of no use there.
        self.assertEqual(gaps(FORK, (E, (1, ("sp", 0), KEPT), (2, None, (LOST,) + KEPT[1:]))), ())
        self.assertEqual(gaps(FORK, (E, (2, None, ALL_LOST))), tuple((2, name) for name in "pqrs"))
        code = (("work", "p"), ("return",))
        self.assertEqual(gaps(code, (E, (1, ("sp", 0), (("word", 0), LOST) + KEPT[2:]))), ())

    def test_a_word_without_the_base_is_no_gap(self):
        code = (("push", "p"), ("work", "p"), ("branch", 4), ("grow", 1), ("return",))
        at = (LOST, LOST) + KEPT[2:]
        rows = (E, (1, ("sp", 1), KEPT), (2, ("sp", 1), SAVED), (4, None, at))
        self.assertEqual(gaps(code, rows), ())
        # A pointer to the frame makes it one.
        code = (("point", "y", 0),) + code[:2] + (("branch", 5),) + code[3:]
        rows = (E, (2, ("sp", 1), KEPT), (3, ("sp", 1), SAVED), (5, None, at))
        self.assertEqual(gaps(code, rows), ((5, "base"), (5, "back"), (5, "p")))

    def test_the_return_address_in_a_register(self):
        code = (("load", "x", "sp", 0), ("branch", 3), ("push", "p"), ("return",))
        rows = ((0, ("sp", 0), KEPT), (3, None, (LOST,) + KEPT[1:]))
        self.assertEqual(gaps(code, rows), ((3, "back"),))
        self.assertEqual(gaps(code, rows[:1] + ((3, None, (("in", "x"),) + KEPT[1:]),)), ())

    def test_places_at_which_no_run_stops_do_not_matter(self):
        code = (("jump", 2), ("push", "p"), ("return",))
        self.assertEqual(gaps(code, (E, (1, None, ALL_LOST), (2, *E[1:]))), ())
        self.assertEqual(gaps((("return",), ("return",)), (E, (1, None, ALL_LOST))), ())

    def test_plain(self):
        self.assertTrue(is_plain(gaps(PAIR, ((0, None, ALL_LOST),))))


class Wrong(unittest.TestCase):
    def raises(self, error, value, ask, *arguments):
        with self.assertRaises(error) as caught:
            ask(*arguments)
        self.assertEqual(list(vars(caught.exception).values()), [value])

    def test_order(self):
        codes = ((None, None), ((), None), ([("return",)], None), (PAIR + (("jump", 5),), 4), ((None,), 0))
        tables = ((None, None), ((), None), ([E], None), ((E, E), 1), ((E,) * 61, None), ((E[:2],), 0))
        for ask in (check_table, gaps):
            for code, place in codes:
                for table in (None, (), (E,), (E, E)):
                    self.raises(BadCode, place, ask, code, table)
            for table, row in tables:
                self.raises(BadTable, row, ask, PAIR, table)
                self.raises(BadTable, row, ask, TOO_MANY, table)
            self.raises(BadTable, 1, ask, TOO_MANY, (E, (31, None, ALL_LOST)))
            self.raises(TooMany, 2000, ask, TOO_MANY, (E,))
            self.raises(TooMany, 2000, ask, TOO_MANY, (E, (30, None, ALL_LOST)))
        for code, place in codes:
            self.raises(BadCode, place, least_table, code)
        self.raises(TooMany, 2000, least_table, TOO_MANY)

    def test_every_wrong_row_is_refused(self):
        for ask in (check_table, gaps):
            for thing in (*NOT_FINDINGS, True, [], b""):
                self.raises(BadTable, 1, ask, PAIR, (E, (1, thing, ALL_LOST)))
            for where in NOT_WHERES:
                self.raises(BadTable, 1, ask, PAIR, (E, (1, ("sp", 0), (LOST, LOST, where, LOST, LOST))))
            self.raises(BadTable, 1, ask, PAIR, (E, (1, None, KEPT)))

    def test_most_stops(self):
        self.assertEqual(check_table(MANY, (E,)), ((0, 1, 2), "base"))
        self.assertEqual(check_table(MANY, ((0, None, (LOST,) + KEPT[1:]),)), None)
        self.assertEqual(gaps(MANY, ((0, None, (LOST,) + KEPT[1:]),)), ())
        self.assertEqual(len(least_table(MANY)), 1)


class Conventions(unittest.TestCase):
    def test_by_name(self):
        self.assertIsNone(check_table(table=FULL, code=PAIR))
        self.assertEqual(gaps(table=SHORT, code=PAIR), ())
        self.assertEqual(len(least_table(code=PAIR)), 3)

    def test_arguments_stay_and_equal_calls_are_equal(self):
        before = copy.deepcopy((PAIR, FULL))
        for ask in (check_table, gaps):
            self.assertEqual(ask(PAIR, FULL), ask(*before))
        self.assertEqual(least_table(PAIR), least_table(before[0]))
        self.assertEqual((PAIR, FULL), before)


if __name__ == "__main__":
    unittest.main()
