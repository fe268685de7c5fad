import copy
import inspect
import unittest

from helpers import STRANGE, Same, is_plain
from model import Numbers
from test_tables import ALL_LOST, E, KEPT, LOST
from unwindrows.errors import BadPlace, BadTable
from unwindrows.rows import Rows
from unwindrows.rules import ENTRY, ITEMS
from unwindrows.tables import need_table, rule_at

TABLE = (E, (3, None, ALL_LOST), (4, ("x", 1), KEPT), (58, ("y", -64), ALL_LOST))
NOT_PLACES = (-1, 60, 61, 10 ** 999, "0", slice(0, 2), *STRANGE)


def one_row(finding, sites):
    return Rows(((0, finding, sites),))


def changed(sites, k, where):
    return sites[:k] + (where,) + sites[k + 1:]


def parts(rule):
    """What a RULE tells: a dict from "base" and ITEMs."""
    told = {} if rule[0] is None else {"base": rule[0]}
    told.update({item: where for item, where in zip(ITEMS, rule[1]) if where != LOST})
    return told


def made(numbers):
    """A TABLE of few kinds of RULEs."""
    places = sorted({0} | {numbers.below(60) for _ in range(numbers.below(5))})
    rows = []
    for place in places:
        finding = numbers.one_of((None, ("sp", 0), ("sp", 0), ("x", 1)))
        sites = [numbers.one_of((LOST, ("in", "p"), ("in", "p"), ("word", -1), ("word", -1))) for _ in range(5)]
        if finding is None:
            sites = [LOST if where[0] == "word" else where for where in sites]
        rows.append((place, finding, tuple(sites)))
    return tuple(rows)


class Made(unittest.TestCase):
    def test_what_is_no_table(self):
        for thing, row in (
            (None, None), ((), None), ([E], None), ((E, E), 1), ((E,) * 61, None), (((0, None, KEPT),), 0),
            (((False, *E[1:]),), 0), ((E, (60, None, ALL_LOST)), 1), (TABLE + (None,), 4),
        ):
            with self.assertRaises(BadTable) as caught:
                Rows(thing)
            self.assertEqual(caught.exception.row, row)

    def test_by_name(self):
        self.assertEqual(Rows(table=TABLE), Rows(TABLE))

    def test_each_method_is_its_own(self):
        for name in (
            "__init__", "__getitem__", "__len__", "__eq__", "__and__", "__contains__", "table", "told", "changes",
            "is_within",
        ):
            self.assertIn(name, vars(Rows))
        self.assertEqual(list(inspect.signature(Rows.told).parameters), ["self", "place"])
        self.assertEqual(list(inspect.signature(Rows.is_within).parameters), ["self", "other"])
        self.assertEqual(list(inspect.signature(Rows).parameters), ["table"])


class Places(unittest.TestCase):
    def test_each_place(self):
        rows = Rows(TABLE)
        for place in range(60):
            self.assertEqual(rows[place], rule_at(TABLE, place))
            self.assertTrue(is_plain(rows[place]))

    def test_what_is_no_place(self):
        rows = Rows(TABLE)
        for thing in NOT_PLACES:
            with self.assertRaises(BadPlace) as caught:
                rows[thing]
            self.assertIs(caught.exception.value, thing)
            with self.assertRaises(BadPlace) as caught:
                rows.told(thing)
            self.assertIs(caught.exception.value, thing)

    def test_told(self):
        rows = Rows(TABLE)
        self.assertEqual([rows.told(place) for place in (0, 2, 3, 4, 57, 58, 59)], [6, 6, 0, 6, 6, 1, 1])
        for k in range(5):
            self.assertEqual(one_row(("sp", 0), changed(KEPT, k, LOST)).told(place=9), 5)
            self.assertEqual(one_row(None, changed(ALL_LOST, k, ("in", "x"))).told(0), 1)


class Plain(unittest.TestCase):
    def test_no_row_repeats_the_rule_ahead(self):
        again = (E, (1, *ENTRY), (3, None, ALL_LOST), (4, None, ALL_LOST), (9, None, ALL_LOST), (10, *ENTRY), (59, *ENTRY))
        self.assertEqual(Rows(again).table(), (E, (3, None, ALL_LOST), (10, *ENTRY)))
        self.assertEqual(len(Rows(again)), 3)

    def test_nothing_is_left_out_otherwise(self):
        for table in (TABLE, (E,), tuple((k, ("sp", k), KEPT) for k in range(60))):
            self.assertEqual(Rows(table).table(), table)
            self.assertEqual(len(Rows(table)), len(table))

    def test_rules_that_are_unlike_in_one_part(self):
        table = (E, (1, ("sp", 1), KEPT), (2, ("sp", 1), changed(KEPT, 4, LOST)), (3, ("sp", 1), changed(KEPT, 4, LOST)))
        self.assertEqual(Rows(table).table(), table[:3])

    def test_changes(self):
        again = TABLE[:2] + ((4, None, ALL_LOST), (5, *ENTRY))
        pairs = Rows(again).changes()
        self.assertTrue(inspect.isgenerator(pairs))
        self.assertEqual(next(pairs), (0, ENTRY))
        self.assertEqual(list(pairs), [(3, (None, ALL_LOST)), (5, ENTRY)])
        self.assertEqual(list(Rows(again).changes()), [(0, ENTRY), (3, (None, ALL_LOST)), (5, ENTRY)])

    def test_plain_things(self):
        rows = Rows(TABLE)
        self.assertTrue(is_plain(rows.table()))
        self.assertTrue(all(is_plain(pair) for pair in rows.changes()))
        self.assertIs(type(len(rows)), int)
        self.assertIs(need_table(rows.table()), rows.table())

    def test_rows_are_not_iterated_over(self):
        with self.assertRaises(TypeError):
            iter(Rows(TABLE))


class Equal(unittest.TestCase):
    def test_the_same_rules(self):
        again = TABLE[:1] + ((2, *ENTRY),) + TABLE[1:] + ((59, ("y", -64), ALL_LOST),)
        self.assertTrue(Rows(TABLE) == Rows(again))
        self.assertFalse(Rows(TABLE) != Rows(again))
        self.assertTrue(Rows((E,)) == Rows(((0, *ENTRY), (59, *ENTRY))))

    def test_other_rules(self):
        for table in (TABLE[:3], TABLE[:1], TABLE[:3] + ((57, *TABLE[3][1:]),), TABLE[:3] + ((58, None, ALL_LOST),)):
            self.assertFalse(Rows(TABLE) == Rows(table))
            self.assertTrue(Rows(TABLE) != Rows(table))

    def test_other_things(self):
        for thing in (TABLE, E, "rows", 0, *STRANGE):
            self.assertIs(Rows(TABLE) == thing, False)
            self.assertIs(Rows(TABLE) != thing, True)


class Within(unittest.TestCase):
    def test_itself(self):
        for table in (TABLE, (E,), ((0, None, ALL_LOST),)):
            self.assertIs(Rows(table).is_within(Rows(table)), True)

    def test_what_tells_nothing(self):
        nothing = one_row(None, ALL_LOST)
        self.assertIs(nothing.is_within(other=Rows(TABLE)), True)
        self.assertIs(Rows(TABLE).is_within(nothing), False)

    def test_each_part(self):
        full = one_row(("sp", 0), KEPT)
        self.assertIs(one_row(("sp", 1), ALL_LOST).is_within(full), False)
        self.assertIs(one_row(("sp", 0), ALL_LOST).is_within(full), True)
        self.assertIs(full.is_within(one_row(("sp", 0), ALL_LOST)), False)
        for k in range(5):
            less = one_row(("sp", 0), changed(KEPT, k, LOST))
            other = one_row(("sp", 0), changed(KEPT, k, ("in", "x")))
            self.assertEqual((less.is_within(full), full.is_within(less)), (True, False))
            self.assertEqual((other.is_within(full), full.is_within(other)), (False, False))
            self.assertEqual((less.is_within(other), other.is_within(less)), (True, False))

    def test_at_each_place(self):
        full = Rows((E,))
        for at in (1, 30, 59):
            less = Rows((E, (at, ("sp", 0), ALL_LOST)))
            more = Rows((E, (at, ("sp", 1), KEPT)))
            self.assertEqual((less.is_within(full), full.is_within(less)), (True, False))
            self.assertEqual((more.is_within(full), full.is_within(more)), (False, False))
            if at < 59:
                less = Rows((E, (at, ("sp", 0), ALL_LOST), (at + 1, *ENTRY)))
                self.assertEqual((less.is_within(full), full.is_within(less)), (True, False))

    def test_against_the_definition(self):
        numbers = Numbers(40)
        seen = {True: 0, False: 0}
        for _ in range(300):
            one, other = made(numbers), made(numbers)
            if numbers.below(2):
                one = (Rows(one) & Rows(other)).table()
            wanted = all(
                parts(rule_at(other, place)).get(part) == what
                for place in range(60)
                for part, what in parts(rule_at(one, place)).items()
            )
            self.assertIs(Rows(one).is_within(Rows(other)), wanted)
            seen[wanted] += 1
        self.assertGreater(min(seen.values()), 50)


class Agreeing(unittest.TestCase):
    def agree(self, one, other):
        """What two of them agree on, when it was seen to be the same in both orders."""
        told = Rows(one) & Rows(other)
        self.assertIs(type(told), Rows)
        self.assertEqual(told, Rows(other) & Rows(one))
        self.assertIs(need_table(told.table()), told.table())
        self.assertTrue(is_plain(told.table()))
        return told.table()

    def test_itself(self):
        for table in (TABLE, (E,), ((0, None, ALL_LOST),)):
            self.assertEqual(self.agree(table, table), table)

    def test_each_part(self):
        one = (0, ("sp", 0), KEPT)
        for k in range(5):
            for where in (LOST, ("in", "x"), ("word", -9)):
                other = (0, ("sp", 0), changed(KEPT, k, where))
                self.assertEqual(self.agree((one,), (other,)), ((0, ("sp", 0), changed(KEPT, k, LOST)),))

    def test_words_are_lost_without_a_finding(self):
        sites = (("word", 0), ("word", -1), ("in", "q"), LOST, ("in", "x"))
        for finding in (("sp", 1), ("x", 0)):
            self.assertEqual(
                self.agree(((0, ("sp", 0), sites),), ((0, finding, sites),)),
                ((0, None, (LOST, LOST, ("in", "q"), LOST, ("in", "x"))),),
            )
        others = (LOST, ("in", "p"), ("in", "q"), LOST, LOST)
        self.assertEqual(self.agree(((0, ("sp", 0), sites),), ((0, None, others),)), ((0, None, changed(ALL_LOST, 2, ("in", "q"))),))

    def test_rows_at_other_places(self):
        one = (E, (3, ("sp", 1), KEPT), (7, *ENTRY))
        other = (E, (5, ("sp", 1), KEPT), (9, *ENTRY))
        lost = (None, (LOST,) + KEPT[1:])
        self.assertEqual(self.agree(one, other), (E, (3, *lost), (5, ("sp", 1), KEPT), (7, *lost), (9, *ENTRY)))

    def test_rows_that_become_the_same(self):
        one = (E, (3, ("sp", 1), ALL_LOST), (7, ("sp", 2), ALL_LOST))
        self.assertEqual(self.agree(one, ((0, None, ALL_LOST),)), ((0, None, ALL_LOST),))
        self.assertEqual(len(Rows(one) & one_row(None, ALL_LOST)), 1)

    def test_against_the_definition(self):
        numbers = Numbers(41)
        for _ in range(300):
            one, other = made(numbers), made(numbers)
            both = self.agree(one, other)
            for place in range(60):
                told = parts(rule_at(one, place)).items() & parts(rule_at(other, place)).items()
                if not any(part == "base" for part, _ in told):
                    told = {(part, what) for part, what in told if what[0] != "word"}
                self.assertEqual(parts(rule_at(both, place)), dict(told))
            self.assertTrue(Rows(both).is_within(Rows(one)) and Rows(both).is_within(Rows(other)))


class In(unittest.TestCase):
    def test_rules_of_some_place(self):
        rows = Rows(TABLE)
        for place in range(60):
            self.assertIs(rows[place] in rows, True)
        self.assertIs((None, ALL_LOST) in rows, True)
        self.assertIs((("sp", 1), KEPT) in rows, False)
        self.assertIs((("sp", 0), ALL_LOST) in rows, False)
        self.assertIs((None, (LOST,) + KEPT[1:]) in rows, False)

    def test_what_only_equals_a_rule(self):
        sites = (("word", 0), LOST, LOST, LOST, LOST)
        rows = Rows(((0, ("sp", 0), sites), (5, ("sp", 1), sites)))
        for finding in (("sp", 0), ("sp", 1)):
            self.assertIs((finding, sites) in rows, True)
            self.assertIs((finding, changed(sites, 0, ("word", False))) in rows, False)
            self.assertIs((finding, changed(sites, 0, Same())) in rows, False)
        for finding in (("sp", False), ("sp", True), Same(), (Same(), 0), ("sp", Same())):
            self.assertIs((finding, sites) in rows, False)
        self.assertIs((("sp", 0), Same()) in rows, False)

    def test_other_things(self):
        rows = Rows(TABLE)
        things = (E, E[:2], [("sp", 0), KEPT], list(ENTRY), (ENTRY[0], list(KEPT)), 0, 3, "rows", (None,), (None, None))
        for thing in (*things, TABLE, rows, {}, ([], []), *STRANGE):
            self.assertIs(thing in rows, False)


class Conventions(unittest.TestCase):
    def test_nothing_changes(self):
        before = copy.deepcopy(TABLE)
        rows, other = Rows(TABLE), Rows((E,))
        for _ in range(2):
            rows & other, rows == other, rows.is_within(other), list(rows.changes()), ENTRY in rows, rows.told(3)
            self.assertEqual(rows.table(), before)
            self.assertEqual(other.table(), (E,))
        self.assertEqual(TABLE, before)


if __name__ == "__main__":
    unittest.main()
