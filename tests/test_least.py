"""TABLEs with the fewest rows, against a search over all ways to part the PLACEs into rows."""

import itertools
import unittest

from helpers import is_plain
from model import ITEMS, Numbers, all_gaps, findings_of, first_wrong, made_small, wheres_of
from unwindrows.states import stops_at
from unwindrows.tables import check_table, gaps, least_table, need_table

LOST = ("lost",)


def stops_of(code):
    """A dict from all STOPs to their first PATHs, in the order of the PATHs."""
    pairs = [pair for place in range(len(code)) for pair in stops_at(code, place)]
    return {at: path for path, at in sorted(pairs, key=lambda pair: (len(pair[0]), pair[0]))}


def places_of(code):
    """For each PLACE what holds at all STOPs there, (FINDINGs, five tuples of WHEREs), or None."""
    stops = stops_of(code)
    places = []
    for place in range(len(code)):
        there = [at for at in stops if at[0] == place]
        places.append((findings_of(there), [wheres_of(there, item) for item in ITEMS]) if there else None)
    return places


def serves(places):
    """Whether one RULE is right at all these PLACEs and leaves no GAP there."""
    places = [place for place in places if place is not None]
    for finding in {None}.union(*[place[0] for place in places]):
        if not all(finding in told or (finding is None and not told) for told, _ in places):
            continue
        if all(item_serves(places, k, finding is not None) for k in range(5)):
            return True
    return False


def item_serves(places, k, based):
    """Whether one WHERE is right for an ITEM at all these PLACEs, and leaves no GAP there."""
    for where in {LOST}.union(*[told[k] for _, told in places]):
        if where[0] == "word" and not based:
            continue
        right = all(where == LOST or where in told[k] for _, told in places)
        full = all(where != LOST or not [w for w in told[k] if base or w[0] == "in"] for base, told in places)
        if right and full:
            return True
    return False


def fewest(code):
    """The least number of rows of a FULL TABLE, over all ways to part the PLACEs."""
    places = places_of(code)
    many = len(code)
    good = {(a, b): serves(places[a:b]) for a in range(many) for b in range(a + 1, many + 1)}
    for rows in range(1, many + 1):
        for starts in itertools.combinations(range(1, many), rows - 1):
            ends = (0, *starts, many)
            if all(good[pair] for pair in zip(ends, ends[1:])):
                return rows
    raise AssertionError(code)


class Least(unittest.TestCase):
    def least(self, code):
        """The TABLE, when it was seen to be FULL."""
        table = least_table(code)
        self.assertTrue(is_plain(table))
        self.assertIs(need_table(table), table)
        self.assertIsNone(check_table(code, table), code)
        self.assertEqual(gaps(code, table), (), code)
        stops = stops_of(code)
        self.assertIsNone(first_wrong(table, stops), code)
        self.assertEqual(all_gaps(code, table, stops), (), code)
        return table

    def rows(self, many, *code):
        table = self.least(code)
        self.assertEqual(len(table), many, (code, table))
        if len(code) <= 10:
            self.assertEqual(fewest(code), many, code)
        return table

    def test_example(self):
        self.rows(3, ("push", "p"), ("work", "p"), ("pop", "p"), ("return",))

    def test_short_codes(self):
        self.rows(1, ("return",))
        self.rows(1, ("work", "x"), ("call", "f"), ("return",))
        self.rows(1, ("jump", 0))
        self.rows(2, ("work", "p"), ("return",))
        self.rows(3, ("grow", 1), ("shrink", 1), ("return",))

    def test_a_pointer_to_the_frame(self):
        # y finds the base wherever sp is, but not ahead of PLACE 1.
        self.rows(2, ("point", "y", 0), ("grow", 1), ("grow", 2), ("grow", 3), ("setsp", "y", 0), ("return",))
        # The register is found in the word behind the push, and at its old place ahead of it.
        code = (
            ("push", "s"), ("point", "s", 0), ("grow", 5), ("work", "x"), ("setsp", "s", 0), ("pop", "s"), ("return",)
        )
        table = self.rows(4, *code)
        self.assertEqual([row[0] for row in table], [0, 1, 3, 6])

    def test_one_finding_serves_many_places(self):
        code = (("point", "x", 0),) + (("push", "q"),) * 30 + (("setsp", "x", 0), ("return",))
        self.assertEqual(len(self.least(code)), 2)

    def test_places_at_which_no_run_stops(self):
        self.rows(1, ("jump", 3), ("push", "p"), ("work", "p"), ("return",))
        self.rows(1, ("return",), ("grow", 1), ("return",))
        self.rows(3, ("grow", 1), ("jump", 4), ("work", "p"), ("work", "p"), ("shrink", 1), ("return",))
        # At PLACE 2 the base is told otherwise than at 1 and 3, but no run stops there.
        self.rows(2, ("grow", 1), ("jump", 3), ("pop", "p"), ("work", "x"), ("jump", 3))

    def test_places_where_nothing_finds_the_base(self):
        table = self.rows(2, ("branch", 2), ("push", "p"), ("return",))
        self.assertEqual(table[1][0], 2)
        self.assertIsNone(table[1][1])
        self.assertEqual(table[1][2][0], LOST)
        table = self.rows(1, ("branch", 3), ("push", "p"), ("jump", 0), ("return",))
        self.assertIsNone(table[0][1])
        # x finds the base wherever sp is, as long as it is kept.
        code = (("point", "x", 0), ("branch", 3), ("grow", 1), ("work", "x"), ("jump", 4))
        table = self.rows(3, *code)
        self.assertEqual([row[1] is None for row in table], [False, False, True])

    def test_a_word_that_cannot_be_told(self):
        # At PLACE 4 p is in word -1 at each STOP, but nothing finds the base.
        code = (("push", "p"), ("work", "p"), ("branch", 4), ("grow", 1), ("jump", 4))
        table = self.least(code)
        self.assertEqual(table[-1], (4, None, (LOST, LOST, ("in", "q"), ("in", "r"), ("in", "s"))))

    def test_what_is_lost_for_good(self):
        table = self.rows(2, ("work", "q"), ("jump", 1))
        self.assertEqual(table[1], (1, ("sp", 0), (("word", 0), ("in", "p"), LOST, ("in", "r"), ("in", "s"))))

    def test_sp_and_words_are_preferred_to_registers(self):
        # The document leaves the choice open; in a caller's frame a register can be lost.
        code = (("push", "p"), ("point", "q", 0), ("move", "x", "p"), ("load", "y", "sp", 1), ("jump", 4))
        self.assertEqual(
            self.least(code)[-1][1:], (("sp", 1), (("word", 0), ("word", -1), LOST, ("in", "r"), ("in", "s")))
        )

    def test_all_places(self):
        code = (("grow", 1), ("shrink", 1)) * 30
        table = self.least(code)
        self.assertEqual([row[0] for row in table], list(range(60)))
        self.assertEqual(len(self.least((("work", "x"),) * 60)), 1)

    def test_many_codes(self):
        numbers = Numbers(77)
        words = (
            "push", "push", "push", "pop", "grow", "shrink", "move", "point", "point", "setsp",
            "work", "work", "store", "load", "call", "jump", "branch", "branch", "return",
        )
        seen = {}
        for _ in range(300):
            code = made_small(numbers, words=words, near=(-2, -1, 0, 0, 0, 1), longest=8)
            table = self.least(code)
            self.assertEqual(len(table), fewest(code), code)
            baseless = any(row[1] is None for row in table)
            unseen = None in places_of(code)
            for key in (len(table), ("baseless", baseless), ("unseen", unseen)):
                seen[key] = seen.get(key, 0) + 1
        for key in (1, 2, 3, 4, ("baseless", True), ("unseen", True), ("unseen", False)):
            self.assertGreater(seen.get(key, 0), 10, seen)


class Changed(unittest.TestCase):
    """Tables that are not FULL, against the second model."""

    def other(self, numbers, table, many):
        """A TABLE that is a little unlike another one."""
        rows = [list(row) for row in table]
        for _ in range(1 + numbers.below(2)):
            row = numbers.one_of(rows)
            kind = numbers.below(6)
            if kind == 0 and row[0] > 0:
                rows.remove(row)
            elif kind == 1:
                row[1] = None
                row[2] = tuple(LOST if where[0] == "word" else where for where in row[2])
            elif kind == 2:
                row[1] = numbers.one_of((("sp", 0), ("sp", 1), ("x", 0), ("p", 1)))
            else:
                sites = list(row[2])
                sites[numbers.below(5)] = numbers.one_of((LOST, LOST, ("in", "p"), ("in", "x")))
                row[2] = tuple(sites)
        free = sorted(set(range(many)) - {row[0] for row in rows})
        if free and numbers.below(2):
            rows.append([numbers.one_of(free), None, (LOST,) * 5])
        return tuple(sorted(tuple(row) for row in rows))

    def test_many_tables(self):
        numbers = Numbers(13)
        wrong, left = {}, {}
        for _ in range(200):
            code = made_small(numbers, near=(-1, 0, 0, 1), longest=8)
            stops = stops_of(code)
            for _ in range(4):
                table = self.other(numbers, least_table(code), len(code))
                told = check_table(code, table)
                self.assertEqual(told, first_wrong(table, stops), (code, table))
                wrong[told and told[1]] = wrong.get(told and told[1], 0) + 1
                told = gaps(code, table)
                self.assertEqual(told, all_gaps(code, table, stops), (code, table))
                for _, part in told:
                    left[part] = left.get(part, 0) + 1
        for part in ("base", *ITEMS):
            self.assertGreater(wrong.get(part, 0), 5, wrong)
            self.assertGreater(left.get(part, 0), 5, left)
        self.assertGreater(wrong[None], 100)


if __name__ == "__main__":
    unittest.main()
