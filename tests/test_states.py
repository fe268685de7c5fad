import copy
import unittest

from helpers import ANY, MANY, STRANGE, TOO_MANY, address, counted, is_plain, stop
from model import Numbers, first_faults, first_stops, made_small
from unwindrows.errors import BadCode, BadPlace, TooMany
from unwindrows.runs import breaking, run
from unwindrows.states import MOST_STOPS, count_stops, faults, is_sound, stops_at

PAIR = (("push", "p"), ("work", "p"), ("pop", "p"), ("return",))
FORK = (("branch", 2), ("push", "p"), ("return",))
LOOP = (("branch", 3), ("push", "p"), ("jump", 0), ("return",))
NOT_CODES = ((None, None), ((), None), ([("return",)], None), ((("jump", 1),), 0), (PAIR + (0,), 4))


class Counting(unittest.TestCase):
    def counts(self, many, *code):
        self.assertEqual(count_stops(code), many, code)

    def test_straight_codes(self):
        self.counts(1, ("return",))
        self.counts(4, *PAIR)
        self.counts(60, *(("work", "p"),) * 60)

    def test_places_that_are_never_reached(self):
        self.counts(1, ("return",), ("push", "p"), ("return",))
        self.counts(2, ("jump", 2), ("push", "p"), ("return",))

    def test_a_break_ends_a_run(self):
        self.counts(1, ("pop", "p"), ("return",))
        self.counts(2, ("push", "p"), ("return",), ("return",))
        self.counts(1, ("setsp", "x", 0), ("return",))
        self.counts(1, ("store", "sp", 1, "p"), ("return",))

    def test_unlike_stops_at_one_place(self):
        self.counts(4, *FORK)
        # They differ in sp, in a register, and in a word alone.
        self.counts(4, ("branch", 2), ("grow", 1), ("return",))
        self.counts(4, ("branch", 2), ("work", "y"), ("return",))
        self.counts(4, ("branch", 2), ("store", "sp", -9, "p"), ("return",))
        self.counts(10, ("branch", 2), ("work", "p"), ("branch", 4), ("work", "q"), ("return",))

    def test_two_ways_to_one_stop_count_once(self):
        self.counts(3, ("branch", 2), ("jump", 2), ("return",))
        self.counts(3, ("branch", 2), ("move", "q", "q"), ("return",))
        self.counts(4, ("work", "p"), ("branch", 3), ("work", "p"), ("return",))
        self.counts(2, ("branch", 1), ("return",))
        # A word that holds ("any",) is like one to which nothing was done.
        self.counts(6, ("work", "p"), ("branch", 5), ("push", "p"), ("shrink", 1), ("jump", 5), ("return",), ("return",))

    def test_loops_that_end(self):
        self.counts(1, ("jump", 0))
        self.counts(2, ("branch", 0), ("return",))
        # The second time round the word below sp is known, the third time nothing is new.
        self.counts(5, ("push", "p"), ("pop", "p"), ("branch", 0), ("return",), ("return",))
        self.counts(4, ("move", "x", "p"), ("branch", 0), ("return",))
        # The registers come back after three times round, but x is another one at first.
        turn = (("move", "x", "p"), ("move", "p", "q"), ("move", "q", "r"), ("move", "r", "x"), ("branch", 0))
        self.counts(4 + 5 * 3, *turn, ("return",))

    def test_where_nothing_is_known(self):
        # The second time round no register and no word holds anything that is known.
        code = tuple(("work", name) for name in "pqrsxy") + (("store", "sp", 0, "p"), ("jump", 0))
        self.counts(8 + 7, *code)
        path = tuple(range(8)) * 2
        self.assertEqual(stops_at(code, 0)[1], (path[:9], (0, 0, (ANY,) * 6, ())))
        self.assertEqual(run(code, path + (0, 1)), (1, 0, (ANY,) * 6, ()))
        self.assertEqual(breaking(code, path + (0,)), ())
        self.assertEqual(faults(code[:7]), {"end": (0, 1, 2, 3, 4, 5, 6)})

    def test_loops_that_push_until_the_bound(self):
        self.counts(65 + 64, ("push", "p"), ("jump", 0))
        self.counts(65 + 65 + 64 + 65, *LOOP)
        self.counts(65 + 64, ("grow", 1), ("jump", 0))
        self.counts(2 + 1, ("grow", 64), ("jump", 0))
        self.counts(22 + 21, ("grow", 3), ("jump", 0))

    def test_the_most(self):
        self.assertEqual(MOST_STOPS, 2000)
        for lowered in (64, 15, 14):
            self.counts(2014 - lowered, *counted(lowered))

    def test_one_more_is_too_many(self):
        for code in (TOO_MANY, counted(12), counted(1)):
            for ask in (count_stops, faults, is_sound):
                with self.assertRaises(TooMany) as caught:
                    ask(code)
                self.assertEqual(caught.exception.most, 2000)

    def test_very_many(self):
        code = ()
        for name in ("p", "q", "r", "s", "x", "y"):
            for other in ("p", "q", "r", "s", "x", "y")[:4]:
                code += (("branch", len(code) + 2), ("move", name, other))
        code += (("push", "p"), ("branch", 0), ("return",))
        self.assertLessEqual(len(code), 60)
        with self.assertRaises(TooMany) as caught:
            count_stops(code)
        self.assertEqual(caught.exception.most, 2000)


class Places(unittest.TestCase):
    def test_each_stop_with_its_path(self):
        self.assertEqual(stops_at(PAIR, 0), [((0,), stop(0, 0))])
        self.assertEqual(stops_at(PAIR, 1), [((0, 1), stop(1, -1, {-1: ("first", "p")}))])
        self.assertEqual(stops_at(PAIR, 2), [((0, 1, 2), stop(2, -1, {-1: ("first", "p")}, p=ANY))])
        self.assertEqual(stops_at(PAIR, 3), [((0, 1, 2, 3), stop(3, 0, {-1: ("first", "p")}))])

    def test_shorter_paths_come_first(self):
        self.assertEqual(
            stops_at(FORK, 2), [((0, 2), stop(2, 0)), ((0, 1, 2), stop(2, -1, {-1: ("first", "p")}))]
        )
        # The longer PATH is the lesser one as a tuple.
        self.assertLess((0, 1, 2), (0, 2))

    def test_paths_of_one_length_ascend(self):
        code = (("branch", 3), ("work", "p"), ("jump", 5), ("work", "q"), ("jump", 5), ("return",))
        self.assertEqual(stops_at(code, 5), [((0, 1, 2, 5), stop(5, 0, p=ANY)), ((0, 3, 4, 5), stop(5, 0, q=ANY))])
        # The lesser PLACE of a branch may be I or the next one.
        ways = (("jump", 2), ("jump", 4), ("branch", 1), ("work", "x"), ("return",))
        self.assertEqual([path for path, _ in stops_at(ways, 4)], [(0, 2, 1, 4), (0, 2, 3, 4)])

    def test_the_first_of_several_paths(self):
        # Both ways lead to one STOP: by a shorter PATH, or by the lesser one of two.
        code = (("branch", 2), ("jump", 2), ("return",))
        self.assertEqual(stops_at(code, 2), [((0, 2), stop(2, 0))])
        code = (("branch", 3), ("work", "p"), ("jump", 5), ("work", "p"), ("jump", 5), ("return",))
        self.assertEqual(stops_at(code, 5), [((0, 1, 2, 5), stop(5, 0, p=ANY))])

    def test_where_no_run_stops(self):
        code = (("jump", 2), ("push", "p"), ("pop", "p"), ("return",))
        self.assertEqual([stops_at(code, place) for place in (1, 3)], [[], []])

    def test_loops(self):
        told = stops_at(LOOP, 0)
        self.assertEqual(len(told), 65)
        for many, (path, there) in enumerate(told):
            self.assertEqual(path, (0, 1, 2) * many + (0,))
            self.assertEqual(there, stop(0, -many, {-at: ("first", "p") for at in range(1, many + 1)}))

    def test_paths_lead_to_the_stops(self):
        code = (("point", "x", 0), ("push", "x"), ("branch", 5), ("call", "f"), ("branch", 1), ("load", "p", "sp", 1))
        for place in range(6):
            for path, there in stops_at(code, place)[:40]:
                self.assertEqual(run(code, path), there)

    def test_what_is_no_place(self):
        for thing in (-1, 4, 59, 60, 10 ** 999, "0", "base", *STRANGE):
            with self.assertRaises(BadPlace) as caught:
                stops_at(PAIR, thing)
            self.assertIs(caught.exception.value, thing)

    def test_too_many(self):
        self.assertEqual(len(stops_at(MANY, 30)), 51)
        for place in (0, 30):
            with self.assertRaises(TooMany) as caught:
                stops_at(TOO_MANY, place)
            self.assertEqual(caught.exception.most, 2000)


class Faults(unittest.TestCase):
    def one(self, word, path, *code):
        self.assertEqual(faults(code), {word: path}, code)
        self.assertIs(is_sound(code), False)
        if word != "vow":
            self.assertEqual(breaking(code, path), (word,))

    def test_sound(self):
        sound = (
            PAIR, (("return",),), (("jump", 0),), (("branch", 0), ("return",)), (("work", "x"), ("call", "f"), ("return",)),
            (("move", "x", "p"), ("work", "p"), ("move", "p", "x"), ("return",)),
            (("return",), ("pop", "p"), ("push", "p")),
            (("work", "p"), ("jump", 0)),
        )
        for code in sound:
            self.assertEqual(faults(code), {})
            self.assertIs(is_sound(code), True)

    def test_end(self):
        self.one("end", (0,), ("work", "p"))
        self.one("end", (0, 1), ("branch", 1), ("branch", 0))
        self.one("end", (0, 2), ("branch", 2), ("return",), ("call", "f"))

    def test_return(self):
        self.one("return", (0, 1), ("push", "p"), ("return",))
        self.one("return", (0, 1), ("store", "sp", 0, "p"), ("return",))
        self.one("return", (0, 1, 2), *FORK)

    def test_sp(self):
        self.one("sp", (0,), ("pop", "p"), ("return",))
        self.one("sp", (0,), ("shrink", 1))
        self.one("sp", (0, 1), ("grow", 64), ("push", "p"))
        self.one("sp", (0, 1) * 64 + (0,), ("push", "p"), ("jump", 0))

    def test_vow(self):
        for name in ("p", "q", "r", "s"):
            self.one("vow", (0, 1), ("work", name), ("return",))
        self.one("vow", (0, 1), ("move", "p", "q"), ("return",))
        self.one("vow", (0, 1), ("point", "s", 0), ("return",))
        self.one("vow", (0, 1, 2), ("push", "x"), ("pop", "r"), ("return",))
        self.one("vow", (0, 1, 2), ("branch", 2), ("work", "q"), ("return",))

    def test_only_preserved_registers_count_and_only_at_returns(self):
        self.assertEqual(faults((("work", "x"), ("move", "y", "p"), ("return",))), {})
        self.assertEqual(faults((("work", "p"), ("branch", 0), ("jump", 1))), {})
        self.assertEqual(faults((("work", "p"), ("call", "return"), ("jump", 1))), {})

    def test_no_vow_where_the_return_breaks(self):
        self.one("return", (0, 1, 2), ("work", "p"), ("push", "p"), ("return",))

    def test_wild(self):
        self.one("wild", (0,), ("setsp", "x", 0), ("return",))
        self.one("wild", (0,), ("store", "p", 0, "p"))
        self.one("wild", (0,), ("load", "p", "sp", 1), ("return",))
        self.one("wild", (0, 1, 2), ("point", "x", 0), ("call", "f"), ("load", "y", "x", 0))

    def test_all_of_them_ascending(self):
        code = (
            ("branch", 7), ("branch", 3), ("pop", "p"), ("branch", 5), ("load", "p", "x", 0),
            ("branch", 10), ("return",), ("branch", 9), ("work", "p"), ("return",),
            ("push", "p"), ("branch", 9),
        )
        told = faults(code)
        self.assertEqual(
            list(told.items()),
            [
                ("end", (0, 1, 3, 5, 10, 11)), ("return", (0, 1, 3, 5, 10, 11, 9)), ("sp", (0, 1, 2)),
                ("vow", (0, 7, 8, 9)), ("wild", (0, 1, 3, 4)),
            ],
        )
        self.assertIs(is_sound(code), False)

    def test_the_first_path(self):
        # A shorter PATH comes ahead of a lesser one, and this ahead of others.
        self.assertEqual(faults((("branch", 3), ("work", "x"), ("pop", "x"), ("pop", "x"))), {"sp": (0, 3)})
        self.assertEqual(faults((("branch", 2), ("pop", "x"), ("pop", "y"))), {"sp": (0, 1)})
        ways = (("branch", 4), ("work", "x"), ("pop", "x"), ("return",), ("work", "y"), ("pop", "y"))
        self.assertEqual(faults(ways), {"sp": (0, 1, 2)})

    def test_most_stops(self):
        self.assertEqual(list(faults(MANY)), ["return", "sp"])
        self.assertIs(is_sound(MANY), False)


class Conventions(unittest.TestCase):
    def test_by_name(self):
        self.assertEqual(count_stops(code=PAIR), 4)
        self.assertEqual(stops_at(place=1, code=PAIR), stops_at(PAIR, 1))
        self.assertEqual(faults(code=FORK), {"return": (0, 1, 2)})
        self.assertIs(is_sound(code=PAIR), True)

    def test_a_wrong_code_comes_first(self):
        for code, place in NOT_CODES:
            for ask in (count_stops, faults, is_sound):
                with self.assertRaises(BadCode) as caught:
                    ask(code)
                self.assertEqual(caught.exception.place, place)
            for other in (0, -1, 60, None, True):
                with self.assertRaises(BadCode) as caught:
                    stops_at(code, other)
                self.assertEqual(caught.exception.place, place)

    def test_a_wrong_place_comes_ahead_of_too_many_stops(self):
        for thing in (31, -1, None, True, "p"):
            with self.assertRaises(BadPlace) as caught:
                stops_at(TOO_MANY, thing)
            self.assertIs(caught.exception.value, thing)

    def test_what_is_returned_can_be_changed(self):
        for place in range(3):
            told = stops_at(FORK, place)
            before = list(told)
            told.append(None)
            told[0] = 0
            self.assertEqual(stops_at(FORK, place), before)
        empty = stops_at((("return",), ("return",)), 1)
        empty.append(1)
        self.assertEqual(stops_at((("return",), ("return",)), 1), [])
        for code in (FORK, PAIR):
            told = faults(code)
            before = dict(told)
            told["end"] = None
            self.assertEqual(faults(code), before)

    def test_arguments_stay(self):
        before = copy.deepcopy(LOOP)
        for _ in range(2):
            count_stops(LOOP), stops_at(LOOP, 3), faults(LOOP), is_sound(LOOP)
        self.assertEqual(LOOP, before)

    def test_plain_things_are_returned(self):
        code = (("point", "x", 0), ("push", "x"), ("branch", 1), ("return",))
        self.assertIs(type(count_stops(code)), int)
        for place in range(4):
            told = stops_at(code, place)
            self.assertIs(type(told), list)
            self.assertTrue(all(is_plain(pair) and len(pair) == 2 for pair in told))
        told = faults(code)
        self.assertIs(type(told), dict)
        self.assertTrue(all(type(word) is str and is_plain(path) for word, path in told.items()))


class Model(unittest.TestCase):
    """All PATHs up to some length are walked with the second model."""

    LONGEST = 9

    def compare(self, code):
        first = first_stops(code, self.LONGEST)
        for place in range(len(code)):
            told = [pair for pair in stops_at(code, place) if len(pair[0]) <= self.LONGEST]
            self.assertEqual(told, [(path, there) for there, path in first.items() if there[0] == place], code)
        told = faults(code)
        self.assertEqual(list(told), sorted(told))
        told = {word: path for word, path in told.items() if len(path) <= self.LONGEST}
        self.assertEqual(told, first_faults(code, self.LONGEST), code)
        self.assertEqual(is_sound(code), not faults(code))
        self.assertEqual(count_stops(code), sum(len(stops_at(code, place)) for place in range(len(code))))
        return first, faults(code)

    def test_many_codes(self):
        numbers = Numbers(5)
        words = ("push", "pop", "grow", "shrink", "move", "point", "setsp", "work", "store", "load", "call") + (
            "jump", "branch", "branch", "branch", "return", "return",
        )
        seen = {}
        several = 0
        for _ in range(400):
            code = made_small(numbers, words=words, near=(-3, -1, 0, 0, 1), longest=9)
            first, told = self.compare(code)
            several += len(first) > len(code)
            for word in told:
                seen[word] = seen.get(word, 0) + 1
        self.assertGreater(several, 20)
        for word in ("end", "return", "sp", "vow", "wild"):
            self.assertGreater(seen[word], 10, word)


if __name__ == "__main__":
    unittest.main()
