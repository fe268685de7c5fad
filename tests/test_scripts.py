import copy
import itertools
import unittest

from helpers import STRANGE, is_plain
from model import Numbers
from test_tables import ALL_LOST, KEPT, LOST, NOT_FINDINGS, NOT_WHERES
from unwindrows.errors import BadScript, BadTable
from unwindrows.rules import ENTRY
from unwindrows.scripts import expanded, need_script, size_of, written
from unwindrows.tables import need_table

FIRST = (0, False, (), 0)
PARTS = ("base", "back", "p", "q", "r", "s")


def rule(base, *whats):
    """A RULE with ("sp", base), and these WHEREs told by numbers: words, or lost."""
    sites = tuple(LOST if what is None else ("word", -what) for what in whats)
    return (("sp", base), sites + (LOST,) * (5 - len(sites)))


def unlike(number):
    """RULEs that are unlike in all parts, one for each number from 0 to 64."""
    return rule(number, *[number] * 5)


def table_of(rules):
    return tuple((place, *each) for place, each in enumerate(rules))


def parts_of(each):
    return (each[0],) + each[1]


def differing(one, other):
    return sum(a != b for a, b in zip(parts_of(one), parts_of(other)))


def least_size(rules):
    """The least SIZE of all SCRIPTs for these RULEs: each row takes again or not, and keeps some."""
    levels = {(): 0}
    before = ENTRY
    for row, each in enumerate(rules):
        behind = {}
        left = len(rules) - row - 1
        for pile, size in levels.items():
            for again in (False, True):
                if again and not pile:
                    continue
                start, rest = (pile[-1], pile[:-1]) if again else (before, pile)
                # More than there are rows to come cannot be taken again.
                for keeps in range(max(left - len(rest), 0) + 1):
                    more = rest + (each,) * keeps
                    cost = size + 1 + again + differing(start, each) + keeps
                    if cost < behind.get(more, 10 ** 9):
                        behind[more] = cost
        levels = behind
        before = each
    return min(levels.values())


class Groups(unittest.TestCase):
    def good(self, *groups):
        self.assertIs(need_script(groups), groups)

    def bad(self, thing, index):
        for ask in (need_script, expanded, size_of):
            with self.assertRaises(BadScript) as caught:
                ask(thing)
            self.assertEqual(caught.exception.index, index, thing)

    def test_the_shortest(self):
        self.good(FIRST)
        self.assertEqual(expanded((FIRST,)), ((0, *ENTRY),))
        self.assertEqual(size_of((FIRST,)), 1)

    def test_how_many_groups(self):
        groups = tuple((place, False, (), 0) for place in range(60))
        for many in (1, 2, 59, 60):
            self.good(*groups[:many])
            self.assertEqual(expanded(groups[:many]), table_of([ENTRY] * many))
            self.assertEqual(size_of(groups[:many]), many)
        for thing in ((), groups + ((60, False, (), 0),), (FIRST,) * 61, (None,) * 61):
            self.bad(thing, None)

    def test_what_is_no_tuple(self):
        strange = [thing for thing in STRANGE if not isinstance(thing, tuple)]
        for thing in ([FIRST], {0: FIRST}, "script", 0, 1, *strange):
            self.bad(thing, None)

    def test_what_is_no_group(self):
        for thing in (list(FIRST), FIRST[:3], FIRST + (0,), (), "four", 0, *STRANGE):
            self.bad((thing,), 0)
            self.bad((FIRST, thing), 1)
            self.bad((FIRST, thing, (2, None)), 1)
        self.bad(FIRST, 0)

    def test_places(self):
        self.good(FIRST, (59, False, (), 0))
        for place in (1, 59, -1, 60, 10 ** 999, "0", *STRANGE):
            self.bad(((place, False, (), 0),), 0)
        for place in (0, 4, 5, 60, -1, 10 ** 999, "6", *STRANGE):
            self.bad((FIRST, (5, False, (), 0), (place, False, (), 0), None), 2)

    def test_again(self):
        self.good((0, False, (), 1), (1, True, (), 0))
        for thing in (0, 1, "", "True", *[thing for thing in STRANGE if not isinstance(thing, bool)]):
            self.bad(((0, thing, (), 0),), 0)
            self.bad(((0, False, (), 2), (1, thing, (), 0)), 1)

    def test_keeps(self):
        for keeps in (0, 1, 59, 60):
            self.good((0, False, (), keeps))
        for keeps in (-1, 61, 10 ** 999, "0", *STRANGE):
            self.bad(((0, False, (), keeps),), 0)
            self.bad((FIRST, (1, False, (), keeps), None), 1)

    def test_sets_in_their_order(self):
        whats = {part: LOST for part in PARTS[1:]}
        whats["base"] = None
        for many in range(7):
            for parts in itertools.combinations(PARTS, many):
                sets = tuple((part, whats[part]) for part in parts)
                groups = ((0, False, ((("base", None), ("back", LOST))), 0), (1, False, sets, 0))
                self.good(*groups)
                if many > 1:
                    self.bad((groups[0], (1, False, sets[::-1], 0)), 1)
                for pair in sets:
                    self.bad((groups[0], (1, False, (*sets, pair), 0)), 1)
                    self.bad((groups[0], (1, False, (pair, *sets), 0)), 1)

    def test_what_are_no_sets(self):
        pair = ("p", LOST)
        sets = (
            [pair], {0: pair}, {pair}, "sets", None, 0, pair, (pair, None), (list(pair),), (("p",),), (("p", LOST, 0),),
            (pair, ("x", LOST)), (("sp", ("sp", 0)),), (("P", LOST),), (("", LOST),),
        )
        for thing in (*sets, *[thing for thing in STRANGE if thing != () or not isinstance(thing, tuple)]):
            self.bad(((0, False, thing, 0),), 0)
            self.bad((FIRST, (1, False, thing, 0)), 1)
        for thing in (0, "x", *STRANGE):
            self.bad(((0, False, ((thing, LOST),), 0),), 0)

    def test_what_is_set(self):
        for finding in (("sp", -64), ("sp", 128), ("x", 0)):
            self.good((0, False, (("base", finding),), 0))
        for finding in (*NOT_FINDINGS, *[thing for thing in STRANGE if thing is not None]):
            self.bad(((0, False, (("base", finding),), 0),), 0)
        for item in PARTS[1:]:
            for where in (LOST, ("word", 0), ("word", -64), ("in", "y")):
                self.good((0, False, ((item, where),), 0))
            for where in (*NOT_WHERES, *STRANGE):
                self.bad(((0, False, ((item, where),), 0),), 0)

    def test_the_least_index(self):
        self.bad((FIRST, (1, True, (), 0), None), 1)
        self.bad((None, None), 0)
        self.bad(((0, False, (("base", None),), 0), None), 0)
        self.bad((FIRST, (2, False, (), 0), (2, False, (), 0), (3, True, (), 0)), 2)


class Doing(unittest.TestCase):
    def bad(self, index, *groups):
        for ask in (need_script, expanded, size_of):
            with self.assertRaises(BadScript) as caught:
                ask(groups)
            self.assertEqual(caught.exception.index, index, groups)

    def test_the_entry_rule_is_the_first_one(self):
        self.assertEqual(expanded((FIRST, (7, False, (), 0))), ((0, *ENTRY), (7, *ENTRY)))

    def test_each_part(self):
        whats = (("x", 3), ("word", -1), ("word", -2), LOST, ("in", "x"), ("in", "y"))
        for k, part in enumerate(PARTS):
            parts = list(parts_of(ENTRY))
            parts[k] = whats[k]
            groups = ((0, False, ((part, whats[k]),), 0), (3, False, (), 0))
            row = (parts[0], tuple(parts[1:]))
            self.assertEqual(expanded(groups), ((0, *row), (3, *row)))
            self.assertEqual(size_of(groups), 3)
        groups = ((0, False, tuple(zip(PARTS, whats)), 0),)
        self.assertEqual(expanded(groups), ((0, whats[0], whats[1:]),))
        self.assertEqual(size_of(groups), 7)

    def test_a_set_that_changes_nothing(self):
        groups = ((0, False, (("p", ("in", "p")),), 0),)
        self.assertEqual(expanded(groups), ((0, *ENTRY),))
        self.assertEqual(size_of(groups), 2)

    def test_words_need_a_finding(self):
        self.bad(0, (0, False, (("base", None),), 0))
        self.bad(1, FIRST, (1, False, (("base", None), ("p", LOST)), 0))
        groups = ((0, False, (("base", None), ("back", LOST)), 0), (1, False, (("p", ("word", -1)),), 0))
        self.bad(1, *groups)
        # Only what comes when all of them are replaced must be a RULE.
        groups = (
            groups[0], (1, False, (("base", ("x", 0)), ("p", ("word", -1))), 0),
            (2, False, (("base", None), ("p", LOST)), 0),
        )
        told = expanded(groups)
        self.assertEqual([row[1] for row in told], [None, ("x", 0), None])
        self.assertEqual(told[1][2][1], ("word", -1))
        self.assertEqual(size_of(groups), 3 + 2 + 2 + 2)

    def test_taking_again(self):
        one, two = ("p", LOST), ("q", LOST)
        groups = (
            (0, False, (), 1), (1, False, (one,), 2), (2, False, (two,), 0), (3, True, (), 0),
            (5, False, (two,), 0), (6, True, (("r", LOST),), 0), (8, True, (), 0),
        )
        lost = [[item for item, where in zip("bpqrs", row[2]) if where == LOST] for row in expanded(groups)]
        self.assertEqual(lost, [[], ["p"], ["p", "q"], ["p"], ["p", "q"], ["p", "r"], []])
        self.assertEqual(size_of(groups), 7 + 3 + 4 + 3)

    def test_what_is_taken_again_is_gone(self):
        groups = ((0, False, (), 1), (1, False, (("p", LOST),), 0), (2, True, (), 0))
        self.bad(3, *groups, (3, True, (), 0))
        self.assertEqual(len(expanded(groups)), 3)
        self.bad(0, (0, True, (), 1))
        self.bad(1, FIRST, (1, True, (), 1))

    def test_a_row_may_take_again_and_keep(self):
        groups = ((0, False, (), 1),) + tuple((k, True, (("p", ("word", -k)),), 1) for k in range(1, 60))
        told = expanded(groups)
        self.assertEqual([row[2][1] for row in told[1:]], [("word", -k) for k in range(1, 60)])
        # What is set stays: it is kept by the next one.
        self.assertEqual(size_of(groups), 60 + 59 + 59 + 60)

    def test_keeping_in_vain(self):
        groups = tuple((place, False, (), 60) for place in range(60))
        self.assertEqual(expanded(groups), table_of([ENTRY] * 60))
        self.assertEqual(size_of(groups), 61 * 60)

    def test_taken_again_is_the_rule_as_it_was_kept(self):
        groups = ((0, False, (("base", ("x", 0)),), 1), (1, False, (("base", ("y", 0)),), 1), (2, True, (), 0), (3, True, (), 0))
        self.assertEqual([row[1] for row in expanded(groups)], [("x", 0), ("y", 0), ("y", 0), ("x", 0)])

    def test_plain_and_tables(self):
        groups = ((0, False, (), 1), (3, False, (("base", None), ("back", LOST)), 0), (4, True, (), 0))
        told = expanded(groups=groups)
        self.assertTrue(is_plain(told))
        self.assertIs(need_table(told), told)
        self.assertIs(need_script(thing=groups), groups)
        self.assertEqual(size_of(groups=groups), 3 + 1 + 2 + 1)


class Writing(unittest.TestCase):
    def written(self, table):
        """The SIZE of the SCRIPT, when it was seen to be one for the TABLE."""
        groups = written(table)
        self.assertIs(type(groups), tuple)
        self.assertTrue(all(type(again) is bool for _, again, _, _ in groups))
        self.assertTrue(all(is_plain((place, sets, keeps)) for place, _, sets, keeps in groups))
        self.assertIs(need_script(groups), groups)
        self.assertEqual(expanded(groups), table)
        return size_of(groups)

    def test_example(self):
        table = ((0, ("sp", 0), KEPT), (1, ("sp", 1), KEPT), (2, ("sp", 0), KEPT))
        self.assertEqual(self.written(table), 5)

    def test_one_row(self):
        self.assertEqual(written(((0, *ENTRY),)), (FIRST,))
        self.assertEqual(self.written(((0, None, ALL_LOST),)), 7)
        self.assertEqual(self.written(((0, ("sp", 0), KEPT[:4] + (LOST,)),)), 2)

    def test_taking_again_where_it_is_worth_it(self):
        # Three parts saved are one more than it costs to keep and to take again.
        for many, size in ((1, 3 + 2), (2, 3 + 4), (3, 3 + 3 + 2), (4, 3 + 4 + 2), (5, 3 + 5 + 2), (6, 3 + 6 + 2)):
            parts = parts_of(ENTRY)
            other = parts_of(unlike(9))[:many] + parts[many:]
            rules = [ENTRY, (other[0], other[1:]), ENTRY]
            self.assertEqual(self.written(table_of(rules)), size)
            self.assertEqual(least_size(rules), size)

    def test_taking_again_and_setting(self):
        near = (ENTRY[0], (LOST,) + KEPT[1:])
        rules = [ENTRY, unlike(9), near]
        self.assertEqual(self.written(table_of(rules)), 3 + 6 + 2 + 1)
        self.assertEqual(least_size(rules), 12)

    def test_places_do_not_matter(self):
        rules = [ENTRY, unlike(9), ENTRY]
        table = tuple((place, *each) for place, each in zip((0, 30, 59), rules))
        self.assertEqual(self.written(table), self.written(table_of(rules)))

    def test_equal_rows(self):
        self.assertEqual(self.written(table_of([ENTRY] * 60)), 60)
        self.assertEqual(self.written(table_of([unlike(3)] * 60)), 66)

    def test_brackets(self):
        # Each RULE is taken again in the reverse order.
        numbers = list(range(1, 31))
        rules = [unlike(k) for k in numbers + numbers[-2::-1]]
        self.assertEqual(self.written(table_of(rules)), 59 + 30 * 6 + 29 * 2)
        rules = [unlike(k) for k in range(1, 31)] + [unlike(k) for k in range(30, 0, -1)]
        self.assertEqual(self.written(table_of(rules)), 60 + 30 * 6 + 29 * 2)

    def test_spans_that_would_overlap(self):
        # 1 and 2 come again in the order in which they were, so that only one can be taken again.
        rules = [unlike(k) for k in (1, 2, 3, 1, 2)]
        self.assertEqual(self.written(table_of(rules)), 5 + 3 * 6 + 2 + 6)
        self.assertEqual(least_size(rules), 31)
        rules = [unlike(k) for k in (1, 2, 3, 2, 1)]
        self.assertEqual(self.written(table_of(rules)), 5 + 3 * 6 + 2 * 2)
        self.assertEqual(least_size(rules), 27)

    def test_one_rule_again_and_again(self):
        # Two RULEs take turns: each second row takes again, the others are set anew.
        for many in (3, 4, 5, 6, 7, 60):
            rules = [unlike(1 + k % 2) for k in range(many)]
            size = self.written(table_of(rules))
            if many < 7:
                self.assertEqual(size, least_size(rules))
            again = (many - 1) // 2
            self.assertEqual(size, many + 6 * (many - again) + 2 * again)

    def test_many_short_tables(self):
        numbers = Numbers(63)
        seen = {}
        for _ in range(400):
            rules = []
            pool = [ENTRY, rule(1, 1, 1), rule(1, 1), rule(2, 1, 1, 1, 1, 1), rule(0, 0), (None, ALL_LOST)]
            some = [numbers.one_of(pool) for _ in range(2 + numbers.below(3))]
            for _ in range(1 + numbers.below(7)):
                rules.append(numbers.one_of(some))
            size = self.written(table_of(rules))
            self.assertEqual(size, least_size(rules), rules)
            again = sum(group[1] for group in written(table_of(rules)))
            seen[again] = seen.get(again, 0) + 1
        for again in (0, 1, 2):
            self.assertGreater(seen.get(again, 0), 10, seen)

    def test_many_tables_with_free_parts(self):
        numbers = Numbers(64)
        for _ in range(300):
            rules = [
                rule(numbers.below(2), *[numbers.one_of((None, 1)) for _ in range(5)]) for _ in range(1 + numbers.below(6))
            ]
            self.assertEqual(self.written(table_of(rules)), least_size(rules), rules)

    def test_sets_that_are_not_needed_are_no_help(self):
        # Here all SETS are tried, not only those that change something.
        rules = [ENTRY, rule(1, 1, 1), ENTRY]
        whats = [[None] + sorted({parts_of(each)[k] for each in rules}) for k in range(6)]
        sets = []
        for choice in itertools.product(*whats):
            sets.append(tuple((part, what) for part, what in zip(PARTS, choice) if what is not None))
        table = table_of(rules)
        first = [(0, False, (), keeps) for keeps in range(2)]
        sizes = []
        for one, two, again in itertools.product(sets, sets, (False, True)):
            if len(one) + len(two) <= 6:
                for begin in first:
                    groups = (begin, (1, False, one, 0), (2, again and begin[3] > 0, two, 0))
                    if expanded(groups) == table:
                        sizes.append(size_of(groups))
            if len(sizes) > 2000:
                break
        self.assertEqual(min(sizes), self.written(table))

    def test_long_tables(self):
        # For each length the SIZE is held against that of all ways to nest spans.
        numbers = Numbers(65)
        for kinds in (2, 3, 5, 9):
            rules = [unlike(numbers.below(kinds)) for _ in range(60)]
            self.assertEqual(self.written(table_of(rules)), nested_size(rules))
        for _ in range(4):
            rules = [rule(numbers.below(3), *[numbers.below(2) for _ in range(5)]) for _ in range(60)]
            self.assertEqual(self.written(table_of(rules)), nested_size(rules))

    def test_what_is_no_table(self):
        for thing, row in (
            (None, None), ((), None), ([(0, *ENTRY)], None), (((0, *ENTRY),) * 2, 1), (((1, *ENTRY),), 0),
            (((0, *ENTRY),) * 61, None), (((0, None, KEPT),), 0), (((False, *ENTRY),), 0),
        ):
            with self.assertRaises(BadTable) as caught:
                written(thing)
            self.assertEqual(caught.exception.row, row)

    def test_arguments_stay_and_equal_calls_are_equal(self):
        table = table_of([unlike(1), unlike(2), unlike(1)])
        before = copy.deepcopy(table)
        self.assertEqual(written(table=table), written(before))
        self.assertEqual(table, before)
        groups = written(table)
        before = copy.deepcopy(groups)
        self.assertEqual(expanded(groups), expanded(before))
        self.assertEqual(size_of(groups), size_of(before))
        self.assertEqual(groups, before)


def nested_size(rules):
    """The least SIZE by another way of counting: by the last row at which the first one is taken again."""
    many = len(rules)
    # What the rows behind a first one cost, up to a last one, if nothing ahead of the first one is taken again.
    costs = {}
    for first in reversed(range(many)):
        for last in range(first, many):
            ways = [0]
            if last > first:
                ways = [1 + differing(rules[first], rules[first + 1]) + costs[first + 1, last]]
            for again in range(first + 2, last + 1):
                here = 3 + differing(rules[first], rules[again])
                ways.append(costs[first, again - 1] + here + costs[again, last])
            costs[first, last] = min(ways)
    return 1 + differing(ENTRY, rules[0]) + costs[0, many - 1]


if __name__ == "__main__":
    unittest.main()
