import copy
import itertools
import unittest

from helpers import MANY, STRANGE, TOO_MANY, Same, is_plain
from model import ITEMS, Numbers, findings_of, made_small, wheres_of
from unwindrows.errors import BadCode, BadItem, BadPaper, BadPlace, NeverThere, TooMany
from unwindrows.papers import check_clash, clash
from unwindrows.runs import run
from unwindrows.states import stops_at

PAIR = (("push", "p"), ("work", "p"), ("pop", "p"), ("return",))
FORK = (("branch", 2), ("push", "p"), ("return",))
SKIP = (("jump", 2), ("push", "p"), ("return",))
LOOP = (("branch", 3), ("push", "p"), ("jump", 0), ("return",))
PARTS = ("base",) + ITEMS
NOT_PLACES = (-1, 4, 60, 10 ** 999, "0", "base", *STRANGE)
NOT_PARTS = ("", "x", "y", "sp", "Base", "base ", "word", "lost", 0, 1, ("p",), ["p"], ("base", ("sp", 0)), *STRANGE)


def told_of(stops, part):
    """What holds for a part at all of some STOPs, by the second model."""
    return findings_of(stops) if part == "base" else wheres_of(stops, part)


def told_by_one(stop, part):
    return set(told_of([stop], part))


def fewest(stops, part):
    """The least number of some STOPs at which nothing holds for a part, over all sets of them."""
    told = [told_by_one(stop, part) for stop in stops]
    for many in range(1, len(told) + 1):
        for some in itertools.combinations(told, many):
            if not set.intersection(*some):
                return many
    return None


def spread(head, ways):
    """A CODE that does the head, then one of the ways, and then returns; with the PLACE of the return."""
    code = list(head)
    last = len(code) + sum(len(way) + 2 for way in ways) - 1
    for way in ways[:-1]:
        code += [("branch", len(code) + len(way) + 2), *way, ("jump", last)]
    code += [*ways[-1], ("jump", last), ("return",)]
    assert code[last] == ("return",)
    return tuple(code), last


def pointed(names, *more):
    """A CODE in which sp and these registers find the base, each one but for one way; with its last PLACE."""
    ways = [[("grow", 1)]] + [[("work", name)] for name in names]
    return spread([("point", name, 0) for name in names], ways + list(more))


class Clashes(unittest.TestCase):
    def good(self, code, place, part):
        """The CLASH, when it was seen to be one."""
        told = clash(code, place, part)
        self.assertTrue(is_plain(told))
        self.assertTrue(all(path[-1] == place for path in told))
        self.assertEqual(list(told), sorted(set(told)))
        stops = [run(code, path) for path in told]
        self.assertEqual(told_of(stops, part), ())
        for k in range(len(stops)):
            rest = stops[:k] + stops[k + 1:]
            self.assertTrue(not rest or told_of(rest, part), (code, place, part, told))
        self.assertIs(check_clash(code, place, part, told), True)
        return told

    def sized(self, many, code, place, part):
        self.assertEqual(len(self.good(code, place, part)), many)
        stops = [stop for _, stop in stops_at(code, place)]
        if part == "base" and len(stops) <= 14:
            self.assertEqual(fewest(stops, part), many)

    def test_example(self):
        self.assertEqual(clash(FORK, 2, "base"), ((0, 1, 2), (0, 2)))
        self.assertIs(check_clash(FORK, 2, "base", ((0, 1, 2), (0, 2))), True)

    def test_none_where_something_holds(self):
        for place in range(4):
            for part in PARTS:
                self.assertIsNone(clash(PAIR, place, part))
        for item in ITEMS:
            self.assertIsNone(clash(FORK, 2, item))
        code = (("point", "x", 0), ("branch", 3), ("grow", 5), ("return",))
        self.assertIsNone(clash(code, 3, "base"))

    def test_a_word_counts_where_no_finding_holds(self):
        code = (("push", "p"), ("work", "p"), ("branch", 4), ("grow", 1), ("return",))
        self.assertIsNone(clash(code, 4, "p"))
        self.sized(2, code, 4, "base")

    def test_one_path_for_an_item(self):
        code = (("work", "p"), ("work", "q"), ("return",))
        self.assertEqual(clash(code, 1, "p"), ((0, 1),))
        self.assertEqual(clash(code, 2, "p"), ((0, 1, 2),))
        self.assertIsNone(clash(code, 1, "q"))
        code = (("store", "sp", 0, "p"), ("return",))
        self.assertEqual(clash(code, 1, "back"), ((0, 1),))

    def test_two_paths_for_an_item(self):
        code, last = spread([], [[("move", "x", "p"), ("work", "p")], [("work", "x")]])
        self.sized(2, code, last, "p")

    def test_many_paths_for_an_item(self):
        for many in range(1, 7):
            head = [("push", "q")] * many + [("work", "q")]
            code, last = spread(head, [[("store", "sp", k, "x")] for k in range(many)])
            self.sized(many, code, last, "q")
            # A way that loses all of them makes one PATH enough, or leaves some out.
            code, last = spread(head, [[("store", "sp", k, "x")] for k in range(many)] + [[("shrink", many), ("call", "f")]])
            self.good(code, last, "q")

    def test_fewest_for_the_base(self):
        for many in range(1, 7):
            code, last = pointed(("p", "q", "r", "s", "x", "y")[:many])
            self.sized(many + 1, code, last, "base")

    def test_fewest_for_the_base_beside_other_ways(self):
        # One way breaks several at once, so that fewer are enough.
        code, last = pointed(("p", "q", "r"), [("work", "p"), ("work", "q")])
        self.sized(3, code, last, "base")
        code, last = pointed(("p", "q", "r"), [("work", "p"), ("work", "q"), ("work", "r")])
        self.sized(2, code, last, "base")
        code, last = pointed(("p", "q", "r", "s"), [("work", "p"), ("work", "q")], [("work", "r"), ("work", "s")])
        self.sized(3, code, last, "base")
        # Other addresses break it as well as none at all.
        ways = [[("grow", 1), ("point", name, 0), ("shrink", 1)] for name in "pq"] + [[("grow", 2)]]
        code, last = spread([("point", "p", 0), ("point", "q", 0)], ways)
        self.sized(3, code, last, "base")

    def test_the_fewest_are_not_the_first_ones(self):
        # The first way needs more others than the second one does, or fewer.
        breaks = [[("point", name, k), ("work", "x")] for name in "pq" for k in (1, 2, 3)]
        low, both = [("grow", 1)], [("grow", 1), ("work", "p")]
        head = [("point", "p", 0), ("point", "q", 0)]
        for ways in ([low, both], [both, low]):
            code, last = spread(head, ways + breaks)
            self.sized(2, code, last, "base")
        head.append(("point", "r", 0))
        breaks += [[("point", "r", k)] for k in (1, 2, 3)]
        for ways in ([low, both], [both, low]):
            code, last = spread(head[:3], ways + breaks)
            self.sized(3, code, last, "base")

    def test_two_that_have_little_in_common_with_the_others(self):
        # Each two of the others have sp in common, each of them and one of the two a register.
        ways = [[("grow", 1), ("work", "p"), ("work", "q")], [("grow", 2), ("work", "r"), ("work", "s")]]
        ways += [[("point", name, k)] for name in "pqrs" for k in (1, 2)]
        for order in (ways, ways[::-1]):
            code, last = spread([("point", name, 0) for name in "pqrs"], order)
            self.sized(2, code, last, "base")

    def test_addresses_at_the_ends_of_the_bounds(self):
        head = [("grow", 64), ("point", "x", -64), ("shrink", 64), ("point", "y", 64)]
        ways = [[("grow", k)] for k in range(1, 5)] + [[("work", "x")], [("work", "y")]]
        code, last = spread(head, ways)
        self.sized(3, code, last, "base")
        self.assertIsNone(clash(*spread(head, ways[:4] + ways[4:5]), "base"))
        self.assertIsNone(clash(*spread(head, ways[:4] + ways[5:]), "base"))

    def test_loops(self):
        for place in (0, 1, 3):
            self.sized(2, LOOP, place, "base")
        self.sized(2, (("branch", 1), ("grow", 1), ("branch", 0)), 0, "base")

    def test_most_stops(self):
        self.sized(2, MANY, 30, "base")
        self.assertIsNone(clash(MANY, 30, "back"))

    def test_many_stops(self):
        code = [("branch", 20)]
        for k in range(9):
            code += [("branch", 2 * k + 3), ("store", "sp", -1 - k, "q")]
        code += [("return",)] + [("work", "x")] * 30 + [("work", "p"), ("grow", 1), ("jump", 19)]
        code = tuple(code)
        self.sized(2, code, 19, "base")
        self.sized(1, code, 19, "p")
        for item in ("back", "q", "r", "s"):
            self.assertIsNone(clash(code, 19, item))

    def compare(self, code, seen):
        for place in range(len(code)):
            stops = [stop for _, stop in stops_at(code, place)]
            for part in PARTS if stops else ():
                if told_of(stops, part):
                    self.assertIsNone(clash(code, place, part), (code, place, part))
                else:
                    many = len(self.good(code, place, part))
                    seen[part, many] = seen.get((part, many), 0) + 1
                    if part == "base" and len(stops) <= 14:
                        self.assertEqual(many, fewest(stops, part), (code, place))

    def test_against_all_sets_of_stops(self):
        numbers = Numbers(31)
        seen = {}
        words = (
            "push", "push", "grow", "move", "point", "point", "setsp", "work", "work", "store", "load", "call",
            "jump", "branch", "branch", "branch",
        )
        for _ in range(150):
            self.compare(made_small(numbers, words=words, near=(-2, -1, 0, 0, 0, 1), longest=12), seen)
        for part in ("base", 2), ("p", 1):
            self.assertGreater(seen.get(part, 0), 10, seen)

    def test_against_all_sets_of_ways(self):
        numbers = Numbers(32)
        seen = {}
        others = [[("work", "r")], [("work", "y")], [("store", "sp", 0, "x")], [("store", "sp", -9, "y")]]
        for _ in range(80):
            names = "pqx"[:1 + numbers.below(3)]
            head = [("point", name, 0) for name in names]
            head += [("push", "r"), ("move", "y", "r"), ("work", "r")][:3 * numbers.below(2)]
            steps = 2 * ([[("grow", 1)]] + [[("work", name)] for name in names]) + others
            ways = []
            for _ in range(3 + numbers.below(4)):
                ways.append([step for _ in range(1 + numbers.below(3)) for step in numbers.one_of(steps)])
            code, _ = spread(head, ways)
            self.compare(code, seen)
        for part in (("base", 2), ("base", 3), ("p", 1), ("r", 1), ("r", 2)):
            self.assertGreater(seen.get(part, 0), 2, (part, seen))


class Checking(unittest.TestCase):
    def refused(self, number, code, place, part, paths):
        with self.assertRaises(BadPaper) as caught:
            check_clash(code, place, part, paths)
        self.assertEqual(caught.exception.number, number, paths)

    def test_takes_what_is_not_lean(self):
        for many in (2, 3, 10, 64):
            paths = tuple(sorted((0, 1, 2) * k + (0,) for k in range(many)))
            self.assertIs(check_clash(LOOP, 0, "base", paths), True)
        code = (("work", "p"), ("branch", 1), ("return",))
        self.assertIs(check_clash(code, 1, "p", ((0, 1), (0, 1, 1), (0, 1, 1, 1))), True)

    def test_takes_any_paths_to_the_place(self):
        # Not only first PATHs count.
        code = (("branch", 0), ("branch", 3), ("push", "p"), ("return",))
        self.assertEqual(clash(code, 3, "base"), ((0, 1, 2, 3), (0, 1, 3)))
        self.assertIs(check_clash(code, 3, "base", ((0, 0, 0, 1, 2, 3), (0, 0, 1, 3))), True)

    def test_takes_many_paths(self):
        code = (("branch", 0), ("push", "p"), ("branch", 0), ("return",))
        paths = tuple(sorted([(0,) * k + (1, 2, 0) for k in range(1, 301)] + [(0,) * 999]))
        self.assertIs(check_clash(code, 0, "base", paths), True)
        same = tuple((0,) * k for k in range(1, 2300))
        self.refused(-1, code, 0, "base", same)

    def test_what_is_no_tuple(self):
        paths = ((0, 1, 2), (0, 2))
        strange = [thing for thing in STRANGE if not isinstance(thing, tuple)]
        for thing in (list(paths), dict(enumerate(paths)), set(paths), "paths", 0, 1, *strange):
            self.refused(None, FORK, 2, "base", thing)

    def test_nothing(self):
        for part in PARTS:
            self.refused(-1, FORK, 2, part, ())

    def test_what_is_no_path(self):
        paths = ((0, 1, 2), (0, 2))
        wrong = ((), (0,), (0, 1), (0, 3), (1, 2), (2,), (0, 2, 2), (0, 1, 2, 3), [0, 2], 0, "02", *STRANGE)
        for thing in wrong:
            self.refused(0, FORK, 2, "base", (thing,))
            self.refused(0, FORK, 2, "base", (thing, *paths))
            self.refused(1, FORK, 2, "base", (paths[0], thing, paths[1]))
            self.refused(2, FORK, 2, "base", (*paths, thing))
        for item in (True, False, "2", None, 10 ** 999, Same(), (2,)):
            self.refused(1, FORK, 2, "base", (paths[0], (0, item), None))
        # PATHs to another PLACE.
        self.refused(0, FORK, 1, "base", paths)
        self.refused(1, LOOP, 0, "base", ((0,), (0, 1)))

    def test_a_path_that_breaks(self):
        code = (("pop", "p"), ("return",))
        self.refused(0, code, 1, "p", ((0, 1),))

    def test_order(self):
        self.refused(1, FORK, 2, "base", ((0, 2), (0, 1, 2)))
        self.refused(1, FORK, 2, "base", ((0, 2), (0, 2)))
        self.refused(2, FORK, 2, "base", ((0, 1, 2), (0, 2), (0, 2)))
        self.refused(2, FORK, 2, "base", ((0, 1, 2), (0, 2), (0, 1, 2), None))
        # Tuples ascend in their own order, and not by length.
        self.refused(1, LOOP, 0, "base", ((0, 1, 2, 0), (0,)))
        self.assertIs(check_clash(LOOP, 0, "base", ((0,), (0, 1, 2, 0))), True)

    def test_where_something_holds(self):
        self.refused(-1, FORK, 2, "base", ((0, 2),))
        self.refused(-1, FORK, 2, "base", ((0, 1, 2),))
        for item in ITEMS:
            self.refused(-1, FORK, 2, item, ((0, 1, 2), (0, 2)))
        code, last = pointed(("p", "q"))
        told = clash(code, last, "base")
        for k in range(3):
            self.refused(-1, code, last, "base", told[:k] + told[k + 1:])
        self.refused(-1, PAIR, 3, "p", ((0, 1, 2, 3),))

    def test_neither_too_many_nor_never_there(self):
        self.refused(-1, SKIP, 1, "base", ())
        self.refused(0, SKIP, 1, "base", ((0, 1),))
        self.assertIs(check_clash(TOO_MANY, 0, "base", ((0,), (0, 1, 2, 0))), True)
        self.refused(-1, TOO_MANY, 30, "base", ())
        self.refused(0, TOO_MANY, 30, "base", ((0,),))


class Wrong(unittest.TestCase):
    ASKS = (clash, lambda code, place, part: check_clash(code, place, part, None))

    def raises(self, error, value, ask, *arguments):
        with self.assertRaises(error) as caught:
            ask(*arguments)
        told = list(vars(caught.exception).values())
        self.assertEqual(len(told), 1)
        if error in (BadPlace, BadItem):
            self.assertIs(told[0], value)
        else:
            self.assertEqual(told[0], value)

    def test_wrong_codes_come_first(self):
        for code, at in ((None, None), ((), None), ([("return",)], None), (PAIR + (("jump", 5),), 4)):
            for ask in self.ASKS:
                for place in (0, 60, None):
                    for part in ("base", "x", None):
                        self.raises(BadCode, at, ask, code, place, part)

    def test_then_wrong_places(self):
        for ask in self.ASKS:
            for code in (PAIR, TOO_MANY):
                for thing in (len(code), *NOT_PLACES):
                    if thing != 4 or isinstance(thing, Same) or code == PAIR:
                        for part in ("p", "x", None):
                            self.raises(BadPlace, thing, ask, code, thing, part)

    def test_then_wrong_parts(self):
        far = TOO_MANY + (("return",),)
        for thing in NOT_PARTS:
            for ask in self.ASKS:
                for code, place in ((PAIR, 0), (SKIP, 1), (TOO_MANY, 0), (far, 31)):
                    self.raises(BadItem, thing, ask, code, place, thing)

    def test_then_too_many_then_never_there(self):
        far = TOO_MANY + (("return",),)
        for part in PARTS:
            for code, place in ((TOO_MANY, 0), (TOO_MANY, 30), (far, 31)):
                self.raises(TooMany, 2000, clash, code, place, part)
            self.raises(NeverThere, 1, clash, SKIP, 1, part)
            self.raises(NeverThere, 1, clash, (("pop", "p"), ("return",)), 1, part)
            self.raises(NeverThere, 1, clash, (("return",), ("work", "p")), 1, part)

    def test_by_name(self):
        paths = ((0, 1, 2), (0, 2))
        self.assertEqual(clash(part="base", place=2, code=FORK), paths)
        self.assertIs(check_clash(paths=paths, part="base", place=2, code=FORK), True)

    def test_arguments_stay_and_equal_calls_are_equal(self):
        paths = [(0, 1, 2), (0, 2)]
        before = copy.deepcopy((FORK, paths))
        self.assertEqual(clash(FORK, 2, "base"), clash(before[0], 2, "base"))
        with self.assertRaises(BadPaper):
            check_clash(FORK, 2, "base", paths)
        self.assertEqual((FORK, paths), before)


if __name__ == "__main__":
    unittest.main()
