import copy
import inspect
import unittest

from helpers import ANY, HOME, STRANGE, Same, is_plain
from house_model import Model, made_house
from model import Numbers, made
from unwindrows.codes import REGISTERS
from unwindrows.errors import BadHouse, BadPath
from unwindrows.houses import MOST_CALLS, Process, need_house
from unwindrows.runs import breaking, following, run

PAIR = (("push", "p"), ("work", "p"), ("pop", "p"), ("return",))
RETURN = (("return",),)
FIRST = tuple(("first", name) for name in REGISTERS)
F = (("grow", 2), ("call", "g"), ("shrink", 2), ("return",))
HOUSE = (("f", F), ("g", PAIR))


def place_of(thing):
    """The place of the BadHouse that a thing raises, or "none"."""
    try:
        need_house(thing)
    except BadHouse as error:
        return error.place
    return "none"


def after(house, steps, takes=()):
    """The process behind so many steps, each of which must have gone on."""
    process = Process(house)
    assert process.run(steps, takes) == "on", (house, steps)
    return process


class Houses(unittest.TestCase):
    def good(self, *house):
        self.assertIs(need_house(house), house)
        Process(house)

    def bad(self, thing, place):
        self.assertEqual(place_of(thing), place, thing)
        with self.assertRaises(BadHouse) as caught:
            Process(thing)
        self.assertEqual(caught.exception.place, place)

    def test_constant(self):
        self.assertEqual(MOST_CALLS, 20)

    def test_how_many(self):
        names = ("a", "b", "c", "d", "e", "f", "g")
        for many in range(1, 7):
            self.good(*[(name, PAIR) for name in names[:many]])
        self.bad(tuple((name, PAIR) for name in names), ())
        self.bad((), ())
        self.bad((None,) * 7, ())

    def test_what_is_no_tuple(self):
        strange = [thing for thing in STRANGE if not isinstance(thing, tuple)]
        for thing in ([("f", PAIR)], {"f": PAIR}, {("f", PAIR)}, "house", 0, *strange):
            self.bad(thing, ())

    def test_what_is_no_pair(self):
        for thing in (["f", PAIR], ("f",), ("f", PAIR, 0), (), "fg", 0, {"f": PAIR}, *STRANGE):
            self.bad((thing,), (0,))
            self.bad((("g", PAIR), thing, None), (1,))
        # A pair alone is a tuple of two things that are no pairs.
        self.bad(("f", PAIR), (0,))

    def test_names(self):
        for name in ("a", "z", "abcdefgh", "push", "sp"):
            self.good((name, PAIR))
        for name in ("", "abcdefghi", "F", "f1", "f g", "f\n", 0, *STRANGE):
            self.bad(((name, PAIR),), (0,))
            self.bad((("g", PAIR), (name, PAIR), None), (1,))

    def test_a_name_twice(self):
        self.bad((("f", PAIR), ("f", RETURN)), (1,))
        self.bad((("f", PAIR), ("g", PAIR), ("h", PAIR), ("g", PAIR), None), (3,))
        # It comes ahead of what is no CODE.
        self.bad((("f", PAIR), ("f", ())), (1,))
        self.bad((("f", PAIR), ("f", (None,))), (1,))

    def test_codes(self):
        for thing in ([("return",)], None, "code", 0, {}, Same()):
            self.bad((("f", thing),), (0,))
            self.bad((("g", PAIR), ("f", thing)), (1,))
        for thing in ((), (None,) * 61, RETURN * 61):
            self.bad((("f", thing),), (0, None))
            self.bad((("g", PAIR), ("f", thing)), (1, None))
        for at in range(3):
            for thing in (None, "return", ("grow", 0), ("jump", 3), ("call", "F"), *STRANGE):
                code = RETURN * at + (thing,) + RETURN * (2 - at)
                self.bad((("f", code),), (0, at))
                self.bad((("g", PAIR), ("f", code), None), (1, at))

    def test_the_first_wrong_item(self):
        self.bad((("g", PAIR), ("f", (None, None)), ("g", PAIR)), (1, 0))
        self.bad((None, ("f", ())), (0,))

    def test_a_house_need_not_have_what_is_called(self):
        self.good(("f", (("call", "g"), ("call", "f"), ("return",))))

    def test_by_name(self):
        self.assertIs(need_house(thing=HOUSE), HOUSE)
        self.assertEqual(Process(house=HOUSE).step(), "on")


class Alone(unittest.TestCase):
    """Processes of one function are runs."""

    def test_beginning(self):
        process = Process(HOUSE)
        self.assertEqual(process.picture(), ("f", 0, 0, FIRST, ((0, HOME),)))
        self.assertEqual(process.depth, 0)
        self.assertEqual(process.calls(), (("f", 0, 0, FIRST[:4]),))

    def test_the_first_function_is_the_one_that_runs(self):
        self.assertEqual(Process(HOUSE[::-1]).picture()[0], "g")

    def test_many_codes(self):
        numbers = Numbers(51)
        ends = {}
        for _ in range(400):
            code = made(numbers, near=(-64, -2, -1, 0, 0, 0, 1, 2, 64))
            # The only NAME that is called is f, so that nothing is known of what is called.
            process = Process((("g", code),))
            path = (0,)
            for _ in range(25):
                self.assertEqual(process.picture(), ("g", *run(code, path)))
                self.assertEqual(process.calls()[0][:3], ("g", path[-1], 0))
                places, words = following(code, path), breaking(code, path)
                take = bool(numbers.below(2))
                word = process.step(take)
                if word != "on":
                    self.assertIn(word, words or ("over",))
                    break
                here = code[path[-1]]
                goes = here[0] == "jump" or here[0] == "branch" and take
                path += (here[1] if goes else path[-1] + 1,)
                self.assertIn(path[-1], places)
            ends[word] = ends.get(word, 0) + 1
        for word in ("on", "over", "sp", "wild", "return", "end"):
            self.assertGreater(ends.get(word, 0), 5, ends)

    def test_unknown_functions(self):
        house = (("f", (("push", "p"), ("store", "sp", -1, "q"), ("call", "other"), ("return",))),)
        name, place, sp, values, words = after(house, 3).picture()
        self.assertEqual((name, place, sp), ("f", 3, -1))
        self.assertEqual(values, FIRST[:4] + (ANY, ANY))
        self.assertEqual(words, ((-1, ("first", "p")), (0, HOME)))
        process = after(house, 3)
        self.assertEqual(process.depth, 0)


class Calls(unittest.TestCase):
    def test_going_in(self):
        process = after(HOUSE, 2)
        self.assertEqual(process.picture(), ("g", 0, -3, FIRST, ((-3, ("back", "f", 2)), (0, HOME))))
        self.assertEqual(process.depth, 1)
        self.assertEqual(process.calls(), (("g", 0, -3, FIRST[:4]), ("f", 2, 0, FIRST[:4])))

    def test_example(self):
        process = Process(HOUSE)
        self.assertEqual(process.run(4), "on")
        values = (ANY,) + FIRST[1:]
        words = ((-4, ("first", "p")), (-3, ("back", "f", 2)), (0, HOME))
        self.assertEqual(process.picture(), ("g", 2, -4, values, words))
        self.assertEqual(process.calls(), (("g", 2, -3, values[:4]), ("f", 2, 0, FIRST[:4])))

    def test_coming_back(self):
        process = after(HOUSE, 6)
        self.assertEqual(process.picture(), ("f", 2, -2, FIRST[:4] + (ANY, ANY), ((0, HOME),)))
        self.assertEqual((process.depth, len(process.calls())), (0, 1))
        self.assertEqual([process.step() for _ in range(3)], ["on", "over", "over"])

    def test_words_of_the_caller_from_sp_on_stay(self):
        f = (("push", "p"), ("push", "q"), ("store", "sp", -1, "r"), ("store", "sp", -9, "s"), ("call", "g"), ("jump", 5))
        process = after((("f", f), ("g", RETURN)), 5)
        words = ((-3, ("back", "f", 5)), (-2, ("first", "q")), (-1, ("first", "p")), (0, HOME))
        self.assertEqual(process.picture()[4], words)
        self.assertEqual(process.step(), "on")
        self.assertEqual(process.picture()[4], words[1:])

    def test_what_the_callee_left_below_is_lost(self):
        g = (("push", "p"), ("store", "sp", -20, "q"), ("pop", "p"), ("return",))
        process = after((("f", F), ("g", g)), 6)
        self.assertEqual(process.picture()[4], ((0, HOME),))

    def test_registers_go_in_and_out(self):
        f = (("move", "x", "p"), ("work", "p"), ("call", "g"), ("jump", 3))
        g = (("push", "x"), ("move", "q", "x"), ("work", "y"), ("shrink", 1), ("return",))
        house = (("f", f), ("g", g))
        self.assertEqual(after(house, 3).picture()[3], (ANY,) + FIRST[1:4] + (FIRST[0], FIRST[5]))
        # g breaks its vow, and the caller sees it; x and y are lost.
        process = after(house, 8)
        self.assertEqual(process.picture()[3], (ANY, FIRST[0], FIRST[2], FIRST[3], ANY, ANY))
        self.assertEqual(process.picture()[:3], ("f", 3, 0))
        # While g runs, the caller has what it had when it called.
        self.assertEqual(after(house, 5).calls()[1], ("f", 3, 0, (ANY,) + FIRST[1:4]))
        self.assertEqual(after(house, 5).calls()[0], ("g", 2, -1, (ANY, FIRST[0], FIRST[2], FIRST[3])))

    def test_calls_within_calls(self):
        f = (("push", "p"), ("call", "g"), ("return",))
        g = (("push", "q"), ("grow", 3), ("call", "h"), ("return",))
        h = (("push", "r"), ("return",))
        process = after((("h", f), ("g", g), ("f", h)), 2)
        self.assertEqual(process.depth, 1)
        process = after((("f", f), ("g", g), ("h", h)), 6)
        self.assertEqual(process.depth, 2)
        self.assertEqual([call[:3] for call in process.calls()], [("h", 1, -7), ("g", 3, -2), ("f", 2, 0)])
        words = (
            (-8, ("first", "r")), (-7, ("back", "g", 3)), (-3, ("first", "q")), (-2, ("back", "f", 2)),
            (-1, ("first", "p")), (0, HOME),
        )
        self.assertEqual(process.picture()[4], words)

    def test_a_function_that_calls_itself(self):
        f = (("branch", 3), ("push", "p"), ("call", "f"), ("jump", 3))
        process = Process((("f", f),))
        self.assertEqual(process.run(6), "on")
        self.assertEqual([call[:3] for call in process.calls()], [("f", 0, -4), ("f", 3, -2), ("f", 3, 0)])

    def test_a_call_as_the_last_instruction(self):
        house = (("f", (("call", "g"),)), ("g", RETURN))
        process = after(house, 1)
        self.assertEqual(process.picture()[4], ((-1, ("back", "f", 1)), (0, HOME)))
        self.assertEqual(process.calls()[1][:3], ("f", 1, 0))
        self.assertEqual(process.step(), "end")
        self.assertEqual(process.step(), "end")
        # With 60 INSTRUCTIONs the PLACE is 60.
        process = after((("f", (("work", "x"),) * 59 + (("call", "g"),)), ("g", RETURN)), 60)
        self.assertEqual(process.picture()[4][0], (-1, ("back", "f", 60)))
        # A call of what is not in the HOUSE ends at once.
        self.assertEqual(Process((("f", (("call", "z"),)),)).step(), "end")

    def test_returns_are_checked_in_each_call(self):
        for g in (
            (("push", "p"), ("return",)), (("store", "sp", 0, "p"), ("return",)),
            (("work", "x"), ("store", "sp", 0, "x"), ("return",)),
        ):
            process = Process((("f", F), ("g", g)))
            self.assertEqual(process.run(100), "return")
        # The return address may have been away, and another one is not taken for it.
        g = (("load", "x", "sp", 0), ("store", "sp", 0, "y"), ("store", "sp", 0, "x"), ("return",))
        self.assertEqual(Process((("f", F), ("g", g))).run(8), "over")
        f = (("load", "p", "sp", 0), ("call", "g"), ("return",))
        self.assertEqual(Process((("f", f), ("g", (("store", "sp", 0, "p"), ("return",))))).run(9), "return")

    def test_addresses_that_another_call_made(self):
        for step in (("setsp", "p", 0), ("store", "p", 0, "q"), ("load", "q", "p", 0)):
            f = (("point", "p", -1), ("call", "g"), ("return",))
            # In g, word -1 is within the bounds, but the address was made in call 0.
            self.assertEqual(Process((("f", f), ("g", (step, ("return",))))).run(9), "wild", step)
        # The caller can still use it when g has returned, and one that g made is of no use to it.
        f = (("point", "p", -1), ("call", "g"), ("store", "p", 0, "q"), ("jump", 3))
        self.assertEqual(after((("f", f), ("g", RETURN)), 4).picture()[4], ((-1, FIRST[1]), (0, HOME)))
        f = (("call", "g"), ("load", "q", "p", 0), ("return",))
        self.assertEqual(Process((("f", f), ("g", (("point", "p", 0), ("return",))))).run(9), "wild")

    def test_addresses_name_the_call_that_made_them(self):
        f = (("grow", 3), ("call", "g"), ("jump", 2))
        g = (("point", "p", 1), ("point", "q", -64), ("push", "p"), ("jump", 3))
        name, _, sp, values, words = after((("f", f), ("g", g)), 5).picture()
        self.assertEqual((name, sp), ("g", -5))
        self.assertEqual(values[:2], (("word", 1, -3), ("word", 1, -68)))
        self.assertEqual(words[0], (-5, ("word", 1, -3)))

    def test_an_address_of_an_earlier_call_with_the_same_number(self):
        # The number of the call is all that counts.
        f = (("call", "g"), ("call", "h"), ("jump", 2))
        g = (("point", "p", 0), ("return",))
        h = (("store", "p", -2, "q"), ("jump", 1))
        process = after((("f", f), ("g", g), ("h", h)), 5)
        self.assertEqual(process.picture()[4], ((-3, FIRST[1]), (-1, ("back", "f", 2)), (0, HOME)))

    def test_bounds_are_those_of_the_call_that_runs(self):
        f = (("grow", 64), ("call", "g"), ("return",))
        # The BASE of g is 65 words below that of f: it is below the bounds of f.
        g = (("grow", 64), ("store", "sp", 64, "p"), ("store", "sp", 0, "q"), ("jump", 3))
        process = after((("f", f), ("g", g)), 5)
        self.assertEqual(process.picture()[2], -129)
        self.assertEqual(process.picture()[4], ((-129, FIRST[1]), (-65, FIRST[0]), (0, HOME)))
        for steps, word in (
            ((("grow", 64), ("grow", 1)), "sp"), ((("grow", 64), ("push", "p")), "sp"), ((("shrink", 1),), "sp"),
            ((("pop", "p"),), "sp"), ((("store", "sp", 1, "p"),), "wild"), ((("load", "p", "sp", 1),), "wild"),
            ((("grow", 1), ("store", "sp", -64, "p")), "wild"), ((("point", "x", 1), ("store", "x", 0, "p")), "wild"),
            ((("point", "x", 0), ("setsp", "x", 1)), "sp"), ((("point", "x", -1), ("setsp", "x", -64)), "sp"),
        ):
            self.assertEqual(Process((("f", f), ("g", steps + RETURN))).run(2 + len(steps)), word, steps)
            self.assertEqual(Process((("f", f), ("g", steps + RETURN))).run(1 + len(steps)), "on", steps)
        for steps in (
            (("grow", 64),), (("store", "sp", 0, "p"),), (("store", "sp", -64, "p"),), (("load", "x", "sp", 0),),
            (("point", "x", 0), ("setsp", "x", -64)),
        ):
            self.assertEqual(Process((("f", f), ("g", steps + RETURN))).run(2 + len(steps)), "on", steps)

    def test_deep(self):
        f = (("push", "p"), ("call", "f"), ("return",))
        process = Process((("f", f),))
        self.assertEqual(process.run(39), "on")
        self.assertEqual(process.depth, 19)
        self.assertEqual(len(process.calls()), 20)
        self.assertEqual([call[2] for call in process.calls()], [-2 * k for k in range(19, -1, -1)])
        self.assertEqual(process.step(), "deep")
        self.assertEqual(process.step(), "deep")
        # A function that is not in the HOUSE begins no call.
        f = (("branch", 3), ("call", "f"), ("return",), ("call", "g"), ("return",))
        process = Process((("f", f),))
        self.assertEqual(process.run(38), "on")
        self.assertEqual(process.depth, 19)
        self.assertEqual([process.step(True), process.step(), process.step()], ["on", "on", "on"])
        self.assertEqual(process.depth, 18)

    def test_deep_calls_may_come_again(self):
        f = (("branch", 2), ("call", "f"), ("return",))
        process = Process((("f", f),))
        # Into call 19 and all the way back.
        self.assertEqual(process.run(38 + 1, (False,) * 19 + (True,)), "on")
        self.assertEqual(process.depth, 19)
        self.assertEqual(process.run(19), "on")
        self.assertEqual((process.depth, process.picture()[1]), (0, 2))
        self.assertEqual(process.step(), "over")


class Steps(unittest.TestCase):
    BRANCHES = (("branch", 2), ("jump", 0), ("branch", 4), ("jump", 2), ("return",))

    def places(self, *takes):
        process = Process((("f", self.BRANCHES),))
        told = []
        for take in takes:
            self.assertEqual(process.step(take), "on")
            told.append(process.picture()[1])
        return told

    def test_step(self):
        self.assertEqual(self.places(True, False, True), [2, 3, 2])
        self.assertEqual(self.places(False, True, True, True), [1, 0, 2, 4])
        process = Process((("f", self.BRANCHES),))
        self.assertEqual((process.step(), process.picture()[1]), ("on", 1))
        self.assertEqual((process.step(take=True), process.picture()[1]), ("on", 0))
        self.assertEqual((process.step(take=True), process.picture()[1]), ("on", 2))

    def test_run(self):
        def place(steps, takes=()):
            return after((("f", self.BRANCHES),), steps, takes).picture()[1]

        self.assertEqual([place(steps) for steps in range(5)], [0, 1, 0, 1, 0])
        self.assertEqual([place(steps, (True,)) for steps in range(5)], [0, 2, 3, 2, 3])
        self.assertEqual([place(steps, (False, True)) for steps in range(5)], [0, 1, 0, 2, 3])
        self.assertEqual([place(steps, (False, True, False, True)) for steps in range(7)], [0, 1, 0, 2, 3, 2, 4])
        self.assertEqual(place(3, [False, True]), 2)
        # takes begin anew with each run, and what is not used is forgotten.
        process = Process((("f", self.BRANCHES),))
        process.run(1, (True, True))
        self.assertEqual((process.run(1), process.picture()[1]), ("on", 3))

    def test_takes_go_through_all_functions(self):
        f = (("branch", 3), ("call", "g"), ("branch", 0), ("return",))
        g = (("branch", 0), ("return",))
        process = Process((("f", f), ("g", g)))
        self.assertEqual(process.run(steps=7, takes=(False, True, True, False, True)), "on")
        self.assertEqual(process.picture()[:2], ("f", 0))

    def test_no_steps(self):
        process = Process((("f", RETURN),))
        self.assertEqual(process.run(0), "on")
        self.assertEqual(process.run(0, (True,)), "on")
        self.assertEqual(process.picture()[1], 0)
        self.assertEqual(process.run(1), "over")
        self.assertEqual(process.run(0), "over")

    def test_over_and_broken(self):
        for code, word in (
            (RETURN, "over"), ((("pop", "p"),), "sp"), ((("setsp", "x", 0),), "wild"), ((("work", "p"),), "end"),
            ((("branch", 0),), "end"), ((("push", "p"), ("return",)), "return"),
        ):
            process = Process((("f", code),))
            self.assertEqual(process.run(2), word)
            for _ in range(3):
                self.assertEqual(process.step(), word)
                self.assertEqual(process.step(True), word)
                self.assertEqual(process.run(5, (True,)), word)
                self.assertEqual(process.run(0), word)

    def test_a_branch_at_the_last_place(self):
        process = Process((("f", (("branch", 0),)),))
        self.assertEqual([process.step(True), process.step(True), process.step(False)], ["on", "on", "end"])

    def test_most_steps(self):
        process = Process((("f", (("call", "g"), ("jump", 0))), ("g", PAIR)))
        self.assertEqual(process.run(100000), "on")
        self.assertEqual(process.picture()[:2], ("g", 3))
        process = Process((("f", PAIR),))
        self.assertEqual(process.run(100000), "over")


class Conventions(unittest.TestCase):
    def test_each_method_is_its_own(self):
        for name in ("__init__", "step", "run", "picture", "depth", "calls"):
            self.assertIn(name, vars(Process))
        self.assertIsInstance(vars(Process)["depth"], property)
        self.assertEqual(str(inspect.signature(Process.step)), "(self, take=False)")
        self.assertEqual(str(inspect.signature(Process.run)), "(self, steps, takes=())")

    def test_processes_do_not_meet(self):
        one, other = Process(HOUSE), Process(HOUSE)
        one.run(4)
        self.assertEqual(other.picture(), Process(HOUSE).picture())
        other.run(4)
        self.assertEqual(one.picture(), other.picture())
        self.assertEqual(one.calls(), other.calls())

    def test_arguments_stay(self):
        takes = [True, False]
        before = copy.deepcopy((HOUSE, takes))
        process = Process(HOUSE)
        process.run(6, takes)
        takes.append(True)
        process.run(3)
        self.assertEqual((HOUSE, takes[:2]), before)

    def test_what_was_told_stays(self):
        process = Process(HOUSE)
        told = [process.picture(), process.calls()]
        before = copy.deepcopy(told)
        self.assertEqual(told, [process.picture(), process.calls()])
        process.run(5)
        self.assertEqual(told, before)

    def test_plain_things(self):
        process = after(HOUSE, 4)
        self.assertTrue(is_plain(process.picture()))
        self.assertTrue(is_plain(process.calls()))
        self.assertIs(type(process.depth), int)


class AgainstTheModel(unittest.TestCase):
    def test_many_houses(self):
        numbers = Numbers(52)
        ends, depths = {}, {}
        for _ in range(500):
            house = made_house(numbers)
            process, model = Process(house), Model(house)
            for _ in range(60):
                self.assertEqual(process.picture(), model.picture(), house)
                self.assertEqual(process.calls(), model.calls(), house)
                self.assertEqual(process.depth, len(model.open) - 1)
                depths[process.depth] = depths.get(process.depth, 0) + 1
                take = bool(numbers.below(2))
                word = process.step(take)
                self.assertEqual(word, model.step(take), house)
                if word != "on":
                    break
            ends[word] = ends.get(word, 0) + 1
        for word in ("on", "over", "sp", "wild", "return", "end", "deep"):
            self.assertGreater(ends.get(word, 0), 5, ends)
        for depth in (0, 1, 2, 3, 19):
            self.assertGreater(depths.get(depth, 0), 50, depths)

    def test_what_is_no_path_is_not_gone(self):
        # The two ways to tell a run are of one mind where it ends.
        code = (("push", "p"), ("return",))
        self.assertEqual(Process((("f", code),)).run(9), "return")
        with self.assertRaises(BadPath):
            run(code, (0, 1, 2))


if __name__ == "__main__":
    unittest.main()
