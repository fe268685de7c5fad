import copy
import unittest

from helpers import ANY, HOME, MANY, STRANGE, TOO_MANY, address, is_plain, stop, straight
from model import (
    ALL_FINDINGS,
    ALL_WHERES,
    Numbers,
    finding_holds,
    findings_of,
    made,
    made_small,
    where_holds,
    wheres_of,
)
from unwindrows.codes import REGISTERS
from unwindrows.errors import BadCode, BadItem, BadPlace, NeverThere, TooMany
from unwindrows.rules import ENTRY, ITEMS, findings, holds, wheres
from unwindrows.runs import run
from unwindrows.states import stops_at

PAIR = (("push", "p"), ("work", "p"), ("pop", "p"), ("return",))
FORK = (("branch", 2), ("push", "p"), ("return",))
SKIP = (("jump", 2), ("push", "p"), ("return",))
LOST = ("lost",)
ALL_LOST = (LOST,) * 5
NOT_PLACES = (-1, 4, 59, 60, 10 ** 999, "0", "base", *STRANGE)
NOT_ITEMS = ("base", "", "x", "y", "sp", "Back", "back ", "word", "lost", 0, 1, ("p",), ["p"], *STRANGE)


def there(*steps):
    """The STOP behind these INSTRUCTIONs."""
    code, path = straight(*steps)
    return run(code, path)


def finds(finding, at):
    return holds((finding, ALL_LOST), at)


def tells(item, where, at):
    """Whether a RULE that tells nothing but this ITEM, and the base where it has to, holds."""
    sites = tuple(where if item == other else LOST for other in ITEMS)
    return holds((("sp", -at[1]) if where[0] == "word" else None, sites), at)


class Constants(unittest.TestCase):
    def test_values(self):
        self.assertEqual(ITEMS, ("back", "p", "q", "r", "s"))
        self.assertEqual(
            ENTRY, (("sp", 0), (("word", 0), ("in", "p"), ("in", "q"), ("in", "r"), ("in", "s")))
        )
        self.assertTrue(is_plain(ITEMS) and is_plain(ENTRY))


class Entry(unittest.TestCase):
    def test_at_the_first_stop_of_many_codes(self):
        numbers = Numbers(3)
        for _ in range(300):
            code = made(numbers)
            self.assertIs(holds(ENTRY, run(code, (0,))), True)
            self.assertIs(holds(rule=ENTRY, stop=run(code, (0,))), True)

    def test_each_part_matters(self):
        for step in (
            ("grow", 1), ("work", "p"), ("work", "q"), ("work", "r"), ("work", "s"),
            ("store", "sp", 0, "p"), ("move", "p", "q"), ("point", "s", 0),
        ):
            self.assertIs(holds(ENTRY, there(step)), False, step)
        for step in (("work", "x"), ("work", "y"), ("store", "sp", -1, "p"), ("call", "f")):
            self.assertIs(holds(ENTRY, there(step)), True, step)


class Findings(unittest.TestCase):
    def only(self, finding, at):
        """Of all FINDINGs with this BASIS just this one holds."""
        for offset in range(-64, 129):
            self.assertIs(finds((finding[0], offset), at), offset == finding[1], (finding, offset))

    def none(self, basis, at):
        for offset in range(-64, 129):
            self.assertIs(finds((basis, offset), at), False)

    def test_sp(self):
        self.only(("sp", 0), there())
        self.only(("sp", 1), there(("push", "p")))
        self.only(("sp", 63), there(("grow", 63)))
        self.only(("sp", 64), there(("grow", 64)))

    def test_registers(self):
        for name in REGISTERS:
            self.only((name, 0), there(("point", name, 0)))
            self.only((name, 5), there(("grow", 7), ("point", name, 2)))
            self.only((name, -3), there(("point", name, 3)))

    def test_ends_of_the_bounds(self):
        for name in REGISTERS:
            self.only((name, -64), there(("point", name, 64)))
            self.only((name, -63), there(("point", name, 63)))
            self.only((name, 127), there(("grow", 64), ("point", name, -63)))
            self.only((name, 128), there(("grow", 64), ("point", name, -64)))

    def test_registers_without_an_address(self):
        self.none("p", there())
        self.none("p", there(("work", "p")))
        self.none("x", there(("load", "x", "sp", 0)))
        self.none("x", there(("point", "x", 0), ("call", "f")))
        # Another register or a word of the stack may hold one.
        self.none("p", there(("point", "x", 0), ("push", "x")))

    def test_addresses_that_were_made_in_another_call(self):
        for name in REGISTERS:
            for call in (1, 2, 19):
                self.none(name, stop(1, 0, **{name: ("word", call, 0)}))
            self.only((name, 0), stop(1, 0, **{name: ("word", 0, 0)}))
        self.assertIs(finds(("sp", 0), stop(1, 0, p=("word", 1, 0))), True)

    def test_none(self):
        for at in (there(), there(("grow", 64)), there(("point", "p", 3))):
            self.assertIs(finds(None, at), True)


class Wheres(unittest.TestCase):
    def just(self, item, wanted, at):
        """Of all WHEREs just these hold for an ITEM, and ("lost",)."""
        for where in ALL_WHERES:
            self.assertIs(tells(item, where, at), where in wanted, (item, where))
        self.assertIs(tells(item, LOST, at), True)

    def test_at_the_beginning(self):
        self.just("back", [("word", 0)], there())
        for name in ITEMS[1:]:
            self.just(name, [("in", name)], there())

    def test_words(self):
        self.just("p", [("word", -1)], there(("push", "p"), ("work", "p")))
        self.just("p", [("word", -64)], there(("store", "sp", -64, "p"), ("work", "p")))
        self.just("p", [("word", -63)], there(("store", "sp", -63, "p"), ("work", "p")))
        self.just("s", [("word", 0)], there(("store", "sp", 0, "s"), ("work", "s")))
        self.just(
            "q", [("word", -1), ("word", -2), ("in", "q")], there(("push", "q"), ("push", "q"), ("push", "p"))
        )

    def test_words_are_counted_from_the_base_and_not_from_sp(self):
        self.just("r", [("word", -6)], there(("grow", 5), ("push", "r"), ("grow", 9), ("work", "r")))

    def test_registers(self):
        for name in REGISTERS:
            self.just("back", [("word", 0), ("in", name)], there(("load", name, "sp", 0)))
        self.just("p", [("in", "y")], there(("move", "y", "p"), ("work", "p")))
        self.just("p", [("in", "p"), ("in", "q"), ("in", "x")], there(("move", "x", "p"), ("move", "q", "p")))

    def test_nothing(self):
        self.just("p", [], there(("work", "p")))
        self.just("p", [], there(("move", "p", "q")))
        self.just("back", [], there(("store", "sp", 0, "x")))

    def test_other_values_are_no_items(self):
        at = there(("move", "p", "x"), ("push", "y"), ("point", "q", 0))
        self.just("p", [], at)
        self.just("q", [], at)
        # Only the return address of this run is meant.
        self.just("back", [], stop(1, 0, {0: ("back", "f", 0)}, p=("back", "", 1), q=("back", "f", 0)))


class Rules(unittest.TestCase):
    def test_all_parts_must_hold(self):
        at = there(("push", "p"), ("work", "p"))
        right = (("sp", 1), (("word", 0), ("word", -1), ("in", "q"), ("in", "r"), ("in", "s")))
        self.assertIs(holds(right, at), True)
        self.assertIs(holds((("sp", 0), right[1]), at), False)
        self.assertIs(holds((("p", 1), right[1]), at), False)
        for k in range(5):
            for where in (("in", "x"), ("word", -7)):
                self.assertIs(holds((right[0], right[1][:k] + (where,) + right[1][k + 1:]), at), False)
            self.assertIs(holds((right[0], right[1][:k] + (LOST,) + right[1][k + 1:]), at), True)

    def test_without_a_finding(self):
        at = there(("grow", 3), ("move", "x", "p"), ("work", "p"))
        self.assertIs(holds((None, ALL_LOST), at), True)
        self.assertIs(holds((None, (LOST, ("in", "x"), LOST, ("in", "r"), LOST)), at), True)
        self.assertIs(holds((None, (LOST, ("in", "p"), LOST, ("in", "r"), LOST)), at), False)
        self.assertIs(holds((None, (LOST, LOST, LOST, LOST, ("in", "r"))), at), False)

    def test_against_the_definition(self):
        numbers = Numbers(8)
        seen = {True: 0, False: 0}
        for _ in range(200):
            code = made_small(numbers, near=(-1, 0, 0, 1, 64, -64))
            path, at = numbers.one_of([pair for place in range(len(code)) for pair in stops_at(code, place)])
            for _ in range(20):
                finding = numbers.one_of([None] + [each for each in ALL_FINDINGS if finding_holds(each, at)] * 3)
                sites = []
                for item in ITEMS:
                    good = [each for each in ALL_WHERES if where_holds(each, item, at)]
                    sites.append(numbers.one_of([LOST, LOST, ("in", "p"), ("word", 0)] + good * 5))
                if finding is None:
                    sites = [LOST if where[0] == "word" else where for where in sites]
                right = all(where_holds(where, item, at) for item, where in zip(ITEMS, sites))
                self.assertIs(holds((finding, tuple(sites)), at), right)
                seen[right] += 1
        self.assertGreater(min(seen.values()), 100)


class AtAPlace(unittest.TestCase):
    def test_example(self):
        self.assertEqual(findings(PAIR, 1), (("sp", 1),))
        self.assertEqual(wheres(PAIR, 1, "p"), (("in", "p"), ("word", -1)))
        self.assertEqual(wheres(PAIR, 2, "p"), (("word", -1),))

    def test_findings_ascend(self):
        steps = (("grow", 3), ("point", "y", 1), ("point", "s", 9), ("point", "q", 0), ("move", "x", "y"))
        code, _ = straight(*steps)
        self.assertEqual(findings(code, 5), (("q", 3), ("s", -6), ("sp", 3), ("x", 2), ("y", 2)))

    def test_findings_at_the_ends_of_the_bounds(self):
        code, _ = straight(("point", "p", 64), ("grow", 64), ("point", "y", -64))
        self.assertEqual(findings(code, 3), (("p", -64), ("sp", 64), ("y", 128)))
        self.assertEqual(findings(code, 1), (("p", -64), ("sp", 0)))

    def test_wheres_ascend(self):
        steps = (("push", "q"), ("move", "y", "q"), ("push", "y"), ("store", "sp", -9, "q"), ("move", "p", "q"))
        code, _ = straight(*steps)
        self.assertEqual(
            wheres(code, 5, "q"), (("in", "p"), ("in", "q"), ("in", "y"), ("word", -11), ("word", -2), ("word", -1))
        )
        self.assertEqual(wheres(code, 5, "p"), ())

    def test_wheres_at_the_ends_of_the_bounds(self):
        code, _ = straight(("store", "sp", -64, "p"), ("store", "sp", 0, "p"))
        self.assertEqual(wheres(code, 2, "p"), (("in", "p"), ("word", -64), ("word", 0)))
        self.assertEqual(wheres(code, 2, "back"), ())
        full = tuple(("store", "sp", at - 59, "q") for at in range(59))
        self.assertEqual(wheres(full, 58, "q"), (("in", "q"),) + tuple(("word", at) for at in range(-59, -1)))

    def test_each_item(self):
        self.assertEqual(wheres(PAIR, 0, "back"), (("word", 0),))
        for item in ITEMS[1:]:
            self.assertEqual(wheres(PAIR, 0, item), (("in", item),))
        code = (("load", "x", "sp", 0), ("work", "x"), ("return",))
        self.assertEqual(wheres(code, 1, "back"), (("in", "x"), ("word", 0)))
        self.assertEqual(wheres(code, 2, "back"), (("word", 0),))

    def test_only_what_holds_at_all_stops(self):
        self.assertEqual(findings(FORK, 2), ())
        self.assertEqual(wheres(FORK, 2, "p"), (("in", "p"),))
        code = (("push", "p"), ("branch", 3), ("work", "p"), ("return",))
        self.assertEqual(wheres(code, 3, "p"), (("word", -1),))
        code = (("branch", 3), ("push", "p"), ("jump", 5), ("grow", 1), ("work", "q"), ("return",))
        self.assertEqual(findings(code, 5), (("sp", 1),))
        self.assertEqual(wheres(code, 5, "p"), (("in", "p"),))
        self.assertEqual(wheres(code, 5, "q"), ())

    def test_words_are_told_where_no_finding_holds(self):
        code = (("push", "p"), ("work", "p"), ("branch", 4), ("grow", 1), ("return",))
        self.assertEqual(findings(code, 4), ())
        self.assertEqual(wheres(code, 4, "p"), (("word", -1),))

    def test_a_pointer_where_sp_differs(self):
        code = (("point", "x", 0), ("branch", 3), ("grow", 5), ("return",))
        self.assertEqual(findings(code, 3), (("x", 0),))
        code = (("branch", 3), ("point", "x", 0), ("jump", 4), ("point", "x", 1), ("return",))
        self.assertEqual(findings(code, 4), (("sp", 0),))

    def test_loops(self):
        code = (("branch", 3), ("push", "p"), ("jump", 0), ("return",))
        for place in (0, 1, 3):
            self.assertEqual(findings(code, place), ())
            self.assertEqual(wheres(code, place, "p"), (("in", "p"),))
        self.assertEqual(wheres(code, 2, "p"), (("in", "p"), ("word", -1)))
        code = (("point", "p", 0), ("branch", 4), ("push", "p"), ("jump", 1), ("return",))
        self.assertEqual(findings(code, 4), (("p", 0),))

    def test_against_the_definition(self):
        numbers = Numbers(21)
        several = 0
        for _ in range(150):
            code = made_small(numbers, near=(-2, -1, 0, 0, 1, 64, -64))
            for place in range(len(code)):
                stops = [at for _, at in stops_at(code, place)]
                several += len(stops) > 1
                if stops:
                    self.assertEqual(findings(code, place), findings_of(stops))
                    for item in ITEMS:
                        self.assertEqual(wheres(code, place, item), wheres_of(stops, item))
        self.assertGreater(several, 30)

    def test_most_stops(self):
        self.assertEqual(findings(MANY, 30), ())
        self.assertEqual(wheres(MANY, 30, "back"), (("word", 0),))


class Wrong(unittest.TestCase):
    def raises(self, error, value, ask, *arguments):
        with self.assertRaises(error) as caught:
            ask(*arguments)
        told = list(vars(caught.exception).values())
        self.assertEqual(len(told), 1)
        if error in (BadPlace, BadItem):
            self.assertIs(told[0], value)
        else:
            self.assertEqual(told[0], value)

    def test_what_is_no_place(self):
        for thing in NOT_PLACES:
            self.raises(BadPlace, thing, findings, PAIR, thing)
            self.raises(BadPlace, thing, wheres, PAIR, thing, "p")

    def test_what_is_no_item(self):
        for thing in NOT_ITEMS:
            self.raises(BadItem, thing, wheres, PAIR, 1, thing)

    def test_too_many_stops(self):
        for place in (0, 30):
            self.raises(TooMany, 2000, findings, TOO_MANY, place)
            self.raises(TooMany, 2000, wheres, TOO_MANY, place, "p")

    def test_never_there(self):
        self.raises(NeverThere, 1, findings, SKIP, 1)
        for item in ITEMS:
            self.raises(NeverThere, 1, wheres, SKIP, 1, item)
        self.raises(NeverThere, 1, findings, (("return",), ("return",)), 1)
        self.raises(NeverThere, 1, findings, (("pop", "p"), ("return",)), 1)

    def test_wrong_codes_come_first(self):
        for code, at in ((None, None), ((), None), ([("return",)], None), (PAIR + (("jump", 5),), 4)):
            for place in (0, 60, None, True):
                self.raises(BadCode, at, findings, code, place)
                for item in ("p", "base", None):
                    self.raises(BadCode, at, wheres, code, place, item)

    def test_then_wrong_places_then_wrong_items(self):
        far = TOO_MANY + (("return",),)
        for thing in (32, -1, None, False, []):
            self.raises(BadPlace, thing, findings, far, thing)
            for item in ("p", "base", None):
                self.raises(BadPlace, thing, wheres, far, thing, item)
        for item in NOT_ITEMS:
            # There are too many STOPs, and none at PLACE 31.
            self.raises(BadItem, item, wheres, far, 0, item)
            self.raises(BadItem, item, wheres, far, 31, item)
            self.raises(BadItem, item, wheres, SKIP, 1, item)

    def test_too_many_stops_come_ahead_of_never_there(self):
        far = TOO_MANY + (("return",),)
        self.raises(TooMany, 2000, findings, far, 31)
        self.raises(TooMany, 2000, wheres, far, 31, "p")


class Conventions(unittest.TestCase):
    def test_by_name(self):
        self.assertEqual(findings(place=1, code=PAIR), (("sp", 1),))
        self.assertEqual(wheres(item="p", place=2, code=PAIR), (("word", -1),))

    def test_plain_tuples_are_returned_and_arguments_stay(self):
        before = copy.deepcopy((PAIR, FORK))
        for code in (PAIR, FORK):
            for place in range(len(code)):
                self.assertTrue(is_plain(findings(code, place)))
                self.assertEqual(findings(code, place), findings(code, place))
                for item in ITEMS:
                    self.assertTrue(is_plain(wheres(code, place, item)))
                for path, at in stops_at(code, place):
                    shown = repr(at)
                    self.assertIs(type(holds(ENTRY, at)), bool)
                    self.assertEqual(repr(at), shown)
        self.assertEqual((PAIR, FORK), before)

    def test_what_the_helpers_take_for_a_stop(self):
        self.assertEqual(stop(0, 0), run(PAIR, (0,)))
        self.assertEqual(there(("point", "p", 2), ("work", "q")), stop(2, 0, p=address(2), q=ANY))
        self.assertEqual(there()[3], ((0, HOME),))


if __name__ == "__main__":
    unittest.main()
