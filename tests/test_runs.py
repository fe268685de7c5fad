import copy
import unittest

from helpers import ANY, HOME, STRANGE, Same, address, is_plain, stop, straight
from unwindrows.codes import REGISTERS
from unwindrows.errors import BadCode, BadPath
from unwindrows.runs import breaking, following, run

PAIR = (("push", "p"), ("work", "p"), ("pop", "p"), ("return",))


def behind(*steps):
    """The STOP behind these INSTRUCTIONs."""
    code, path = straight(*steps)
    return run(code, path)


def ending(*steps):
    """What is told ahead of the last of these INSTRUCTIONs: (following, breaking)."""
    code, path = straight(*steps)
    return following(code, path[:-1]), breaking(code, path[:-1])


class Each(unittest.TestCase):
    """Shared checks of what comes next."""

    def goes_on(self, *steps):
        self.assertEqual(ending(*steps), ((len(steps),), ()), steps)

    def breaks(self, word, *steps):
        self.assertEqual(ending(*steps), ((), (word,)), steps)
        # At the last PLACE, too, it is this word and not "end".
        path = tuple(range(len(steps)))
        self.assertEqual((following(steps, path), breaking(steps, path)), ((), (word,)), steps)
        code, path = straight(*steps)
        with self.assertRaises(BadPath) as caught:
            run(code, path)
        self.assertEqual(caught.exception.index, len(steps))


class Beginning(unittest.TestCase):
    def test_first_stop(self):
        values = tuple(("first", name) for name in ("p", "q", "r", "s", "x", "y"))
        self.assertEqual(run(PAIR, (0,)), (0, 0, values, ((0, ("back", "", 0)),)))

    def test_the_same_for_every_code(self):
        for code in (PAIR, (("return",),), (("pop", "p"),), (("jump", 0),)):
            self.assertEqual(run(code, (0,)), stop(0, 0))


class Pushing(Each):
    def test_push(self):
        self.assertEqual(behind(("push", "p")), stop(1, -1, {-1: ("first", "p")}))
        self.assertEqual(
            behind(("push", "y"), ("push", "s")), stop(2, -2, {-1: ("first", "y"), -2: ("first", "s")})
        )

    def test_push_of_any_is_left_out_and_hides_what_was_there(self):
        self.assertEqual(behind(("work", "p"), ("push", "p")), stop(2, -1, p=ANY))
        self.assertEqual(
            behind(("push", "p"), ("shrink", 1), ("work", "p"), ("push", "p")), stop(4, -1, p=ANY)
        )

    def test_push_at_the_bounds(self):
        self.assertEqual(behind(("grow", 63), ("push", "q")), stop(2, -64, {-64: ("first", "q")}))
        self.goes_on(("grow", 63), ("push", "q"))
        self.breaks("sp", ("grow", 64), ("push", "q"))

    def test_pop(self):
        self.assertEqual(
            behind(("push", "p"), ("pop", "x")), stop(2, 0, {-1: ("first", "p")}, x=("first", "p"))
        )
        self.assertEqual(
            behind(("push", "p"), ("push", "q"), ("pop", "p")),
            stop(3, -1, {-1: ("first", "p"), -2: ("first", "q")}, p=("first", "q")),
        )

    def test_pop_of_an_unknown_word(self):
        self.assertEqual(behind(("grow", 1), ("pop", "p")), stop(2, 0, p=ANY))

    def test_pop_at_the_bounds(self):
        self.goes_on(("grow", 64), ("pop", "q"))
        self.goes_on(("grow", 1), ("pop", "q"))
        self.breaks("sp", ("pop", "q"))
        self.breaks("sp", ("push", "q"), ("pop", "q"), ("pop", "q"))


class MovingSp(Each):
    def test_grow_and_shrink(self):
        self.assertEqual(behind(("grow", 3)), stop(1, -3))
        self.assertEqual(behind(("grow", 64), ("shrink", 1)), stop(2, -63))
        self.assertEqual(behind(("push", "p"), ("shrink", 1)), stop(2, 0, {-1: ("first", "p")}))

    def test_at_the_bounds(self):
        self.goes_on(("grow", 64))
        self.goes_on(("grow", 1), ("grow", 63))
        self.breaks("sp", ("grow", 1), ("grow", 64))
        self.breaks("sp", ("grow", 64), ("grow", 1))
        self.goes_on(("grow", 64), ("shrink", 64))
        self.goes_on(("grow", 5), ("shrink", 5))
        self.breaks("sp", ("grow", 5), ("shrink", 6))
        self.breaks("sp", ("shrink", 1))

    def test_setsp(self):
        self.assertEqual(
            behind(("point", "x", 0), ("grow", 9), ("setsp", "x", -4)), stop(3, -4, x=address(0))
        )
        self.assertEqual(
            behind(("grow", 7), ("point", "p", 2), ("setsp", "p", 5)), stop(3, 0, p=address(-5))
        )

    def test_setsp_at_the_bounds(self):
        self.goes_on(("point", "x", 0), ("setsp", "x", -64))
        self.breaks("sp", ("point", "x", -1), ("setsp", "x", -64))
        self.goes_on(("point", "x", -1), ("setsp", "x", 1))
        self.breaks("sp", ("point", "x", 0), ("setsp", "x", 1))

    def test_setsp_by_an_address_of_whatever_number(self):
        self.assertEqual(behind(("point", "x", 64), ("setsp", "x", -64)), stop(2, 0, x=address(64)))
        self.breaks("sp", ("point", "x", 64), ("setsp", "x", -63))
        self.assertEqual(
            behind(("grow", 64), ("point", "x", -64), ("setsp", "x", 64)), stop(3, -64, x=address(-128))
        )
        self.breaks("sp", ("grow", 64), ("point", "x", -64), ("setsp", "x", 63))

    def test_setsp_without_an_address(self):
        self.breaks("wild", ("setsp", "x", 0))
        self.breaks("wild", ("work", "x"), ("setsp", "x", 0))
        self.breaks("wild", ("load", "x", "sp", 0), ("setsp", "x", 0))
        # No sp could be in its bounds here, but the address is missed first.
        self.breaks("wild", ("grow", 64), ("setsp", "x", -64))
        self.breaks("wild", ("setsp", "x", 64))


class Registers(Each):
    def test_move(self):
        self.assertEqual(behind(("move", "p", "y")), stop(1, 0, p=("first", "y")))
        self.assertEqual(behind(("move", "p", "p")), stop(1, 0))
        self.assertEqual(
            behind(("move", "x", "p"), ("move", "p", "q"), ("move", "q", "x")),
            stop(3, 0, x=("first", "p"), p=("first", "q"), q=("first", "p")),
        )

    def test_point(self):
        self.assertEqual(behind(("point", "q", 0)), stop(1, 0, q=address(0)))
        self.assertEqual(behind(("grow", 5), ("point", "q", 3)), stop(2, -5, q=address(-2)))
        self.assertEqual(behind(("point", "x", 64)), stop(1, 0, x=address(64)))
        self.assertEqual(behind(("grow", 64), ("point", "x", -64)), stop(2, -64, x=address(-128)))

    def test_work(self):
        for name in REGISTERS:
            self.assertEqual(behind(("work", name)), stop(1, 0, **{name: ANY}))
        self.assertEqual(behind(("point", "x", 0), ("work", "x")), stop(2, 0, x=ANY))

    def test_every_register_in_every_place(self):
        for name in REGISTERS:
            held = {name: ("first", "q")}
            self.assertEqual(behind(("move", name, "q")), stop(1, 0, **held))
            self.assertEqual(behind(("push", name)), stop(1, -1, {-1: ("first", name)}))
            self.assertEqual(behind(("grow", 2), ("pop", name)), stop(2, -1, **{name: ANY}))
            self.assertEqual(behind(("point", name, -1)), stop(1, 0, **{name: address(-1)}))


class StoringWithSp(Each):
    def test_store(self):
        self.assertEqual(behind(("store", "sp", -3, "p")), stop(1, 0, {-3: ("first", "p")}))
        self.assertEqual(behind(("grow", 4), ("store", "sp", 1, "p")), stop(2, -4, {-3: ("first", "p")}))
        self.assertEqual(behind(("store", "sp", 0, "p")), stop(1, 0, {0: ("first", "p")}))

    def test_store_of_any_leaves_the_word_out(self):
        self.assertEqual(
            behind(("push", "p"), ("work", "x"), ("store", "sp", 0, "x")), stop(3, -1, x=ANY)
        )
        self.assertEqual(behind(("work", "x"), ("store", "sp", 0, "x"))[3], ())

    def test_store_at_the_bounds(self):
        self.assertEqual(behind(("store", "sp", -64, "p")), stop(1, 0, {-64: ("first", "p")}))
        self.goes_on(("store", "sp", -64, "p"))
        self.breaks("wild", ("grow", 1), ("store", "sp", -64, "p"))
        self.goes_on(("grow", 1), ("store", "sp", -63, "p"))
        self.goes_on(("grow", 64), ("store", "sp", 64, "p"))
        self.breaks("wild", ("grow", 63), ("store", "sp", 64, "p"))
        self.goes_on(("store", "sp", 0, "p"))
        self.breaks("wild", ("store", "sp", 1, "p"))

    def test_load(self):
        self.assertEqual(
            behind(("push", "p"), ("load", "x", "sp", 0)), stop(2, -1, {-1: ("first", "p")}, x=("first", "p"))
        )
        self.assertEqual(behind(("load", "q", "sp", 0)), stop(1, 0, q=HOME))
        self.assertEqual(behind(("load", "q", "sp", -7)), stop(1, 0, q=ANY))

    def test_load_at_the_bounds(self):
        self.goes_on(("load", "p", "sp", -64))
        self.breaks("wild", ("grow", 1), ("load", "p", "sp", -64))
        self.assertEqual(behind(("grow", 64), ("load", "p", "sp", 64)), stop(2, -64, p=HOME))
        self.breaks("wild", ("grow", 63), ("load", "p", "sp", 64))
        self.goes_on(("load", "p", "sp", 0))
        self.breaks("wild", ("load", "p", "sp", 1))


class StoringWithRegisters(Each):
    def test_store(self):
        self.assertEqual(
            behind(("point", "x", -2), ("store", "x", -1, "p")), stop(2, 0, {-3: ("first", "p")}, x=address(-2))
        )
        self.assertEqual(
            behind(("point", "q", -2), ("store", "q", 0, "q")), stop(2, 0, {-2: address(-2)}, q=address(-2))
        )

    def test_sp_does_not_matter(self):
        self.assertEqual(
            behind(("point", "p", 0), ("grow", 9), ("store", "p", -3, "q")),
            stop(3, -9, {-3: ("first", "q")}, p=address(0)),
        )

    def test_store_at_the_bounds(self):
        for name in REGISTERS:
            self.goes_on(("point", name, 0), ("store", name, 0, "p"))
            self.breaks("wild", ("point", name, 0), ("store", name, 1, "p"))
            self.goes_on(("point", name, 0), ("store", name, -64, "p"))
            self.breaks("wild", ("point", name, -1), ("store", name, -64, "p"))
            self.goes_on(("point", name, -64), ("store", name, 64, "p"))
            self.breaks("wild", ("point", name, -63), ("store", name, 64, "p"))

    def test_addresses_out_of_the_bounds_with_words_in_them(self):
        self.assertEqual(
            behind(("point", "x", 64), ("store", "x", -64, "p")), stop(2, 0, {0: ("first", "p")}, x=address(64))
        )
        self.assertEqual(
            behind(("grow", 64), ("point", "x", -64), ("store", "x", 64, "p")),
            stop(3, -64, {-64: ("first", "p")}, x=address(-128)),
        )
        self.breaks("wild", ("grow", 64), ("point", "x", -64), ("store", "x", 63, "p"))

    def test_load(self):
        self.assertEqual(
            behind(("push", "s"), ("point", "y", 0), ("shrink", 1), ("load", "p", "y", 0)),
            stop(4, 0, {-1: ("first", "s")}, y=address(-1), p=("first", "s")),
        )
        self.assertEqual(behind(("point", "x", -4), ("load", "x", "x", 4)), stop(2, 0, x=HOME))
        self.assertEqual(behind(("point", "x", -4), ("load", "x", "x", 0)), stop(2, 0, x=ANY))

    def test_load_at_the_bounds(self):
        for name in REGISTERS:
            self.goes_on(("point", name, 0), ("load", "p", name, 0))
            self.breaks("wild", ("point", name, 0), ("load", "p", name, 1))
            self.goes_on(("point", name, 0), ("load", "p", name, -64))
            self.breaks("wild", ("point", name, -1), ("load", "p", name, -64))

    def test_what_is_no_address(self):
        for last in (("store", "x", 0, "p"), ("load", "p", "x", 0)):
            self.breaks("wild", last)
            self.breaks("wild", ("work", "x"), last)
            self.breaks("wild", ("load", "x", "sp", 0), last)

    def test_addresses_go_through_words(self):
        self.assertEqual(
            behind(("point", "x", 0), ("push", "x"), ("pop", "p"), ("load", "p", "p", 0)),
            stop(4, 0, {-1: address(0)}, x=address(0), p=HOME),
        )


class Calling(Each):
    def test_keeps_the_preserved_registers_and_loses_the_others(self):
        self.assertEqual(behind(("call", "f")), stop(1, 0, x=ANY, y=ANY))
        self.assertEqual(
            behind(("point", "p", -1), ("move", "s", "x"), ("move", "x", "q"), ("call", "g")),
            stop(4, 0, p=address(-1), s=("first", "x"), x=ANY, y=ANY),
        )

    def test_keeps_the_words_from_sp_on(self):
        steps = (("push", "p"), ("push", "q"), ("push", "r"), ("store", "sp", -5, "s"), ("shrink", 1), ("call", "f"))
        words = {-1: ("first", "p"), -2: ("first", "q")}
        self.assertEqual(behind(*steps), stop(6, -2, words, x=ANY, y=ANY))

    def test_keeps_addresses_of_words_that_are_lost(self):
        self.assertEqual(
            behind(("push", "p"), ("point", "q", 0), ("shrink", 1), ("call", "f"), ("load", "p", "q", 0)),
            stop(5, 0, q=address(-1), p=ANY, x=ANY, y=ANY),
        )

    def test_never_breaks(self):
        self.goes_on(("grow", 64), ("call", "f"))
        self.goes_on(("call", "f"))


class Returning(Each):
    def test_the_run_is_over(self):
        self.assertEqual(following(PAIR, (0, 1, 2, 3)), ())
        self.assertEqual(breaking(PAIR, (0, 1, 2, 3)), ())
        code = (("return",), ("return",))
        self.assertEqual((following(code, (0,)), breaking(code, (0,))), ((), ()))

    def test_sp_must_be_the_base(self):
        self.breaks("return", ("push", "p"), ("return",))
        self.breaks("return", ("grow", 64), ("return",))
        self.breaks("return", ("load", "p", "sp", 0), ("push", "p"), ("return",))

    def test_the_word_at_the_base_must_be_the_return_address(self):
        self.breaks("return", ("store", "sp", 0, "p"), ("return",))
        self.breaks("return", ("work", "x"), ("store", "sp", 0, "x"), ("return",))
        self.breaks("return", ("point", "x", 0), ("store", "sp", 0, "x"), ("return",))

    def test_the_return_address_may_have_been_away(self):
        steps = (("load", "p", "sp", 0), ("store", "sp", 0, "x"), ("store", "sp", 0, "p"), ("return",))
        self.assertEqual((following(steps, (0, 1, 2, 3)), breaking(steps, (0, 1, 2, 3))), ((), ()))

    def test_lost_registers_do_not_break(self):
        code = (("work", "p"), ("return",))
        self.assertEqual((following(code, (0, 1)), breaking(code, (0, 1))), ((), ()))


class Going(unittest.TestCase):
    def ahead(self, code, path):
        return following(code, path), breaking(code, path)

    def test_the_next_place(self):
        self.assertEqual(self.ahead(PAIR, (0,)), ((1,), ()))
        self.assertEqual(self.ahead(PAIR, (0, 1, 2)), ((3,), ()))

    def test_jump(self):
        code = (("jump", 2), ("return",), ("jump", 1))
        self.assertEqual(self.ahead(code, (0,)), ((2,), ()))
        self.assertEqual(self.ahead(code, (0, 2)), ((1,), ()))
        self.assertEqual(run(code, (0, 2, 1)), stop(1, 0))
        self.assertEqual(self.ahead((("jump", 0),), (0, 0, 0)), ((0,), ()))

    def test_branch(self):
        code = (("branch", 2), ("branch", 0), ("return",))
        self.assertEqual(self.ahead(code, (0,)), ((1, 2), ()))
        self.assertEqual(self.ahead(code, (0, 1)), ((0, 2), ()))
        self.assertEqual(run(code, (0, 1, 0, 2)), stop(2, 0))

    def test_branch_to_the_next_place_and_to_itself(self):
        self.assertEqual(self.ahead((("branch", 1), ("return",)), (0,)), ((1,), ()))
        self.assertEqual(self.ahead((("branch", 0), ("return",)), (0, 0)), ((0, 1), ()))

    def test_places_ascend_as_numbers(self):
        code = (("jump", 9),) + (("work", "p"),) * 8 + (("branch", 2), ("return",))
        self.assertEqual(self.ahead(code, (0, 9)), ((2, 10), ()))

    def test_the_end(self):
        self.assertEqual(self.ahead((("branch", 0),), (0, 0)), ((0,), ("end",)))
        self.assertEqual(self.ahead((("work", "p"),), (0,)), ((), ("end",)))
        self.assertEqual(self.ahead((("call", "f"),), (0,)), ((), ("end",)))
        self.assertEqual(self.ahead((("work", "p"),) * 60, tuple(range(59))), ((59,), ()))
        self.assertEqual(self.ahead((("work", "p"),) * 60, tuple(range(60))), ((), ("end",)))

    def test_every_instruction_at_the_last_place(self):
        go_on = (
            ("push", "p"), ("pop", "p"), ("grow", 1), ("shrink", 1), ("move", "p", "q"), ("point", "p", 0),
            ("setsp", "x", 0), ("store", "sp", 0, "p"), ("load", "p", "sp", 0), ("work", "p"), ("call", "f"),
        )
        for last in go_on:
            code = (("point", "x", 0), ("grow", 2), last)
            self.assertEqual(self.ahead(code, (0, 1, 2)), ((), ("end",)), last)


class Paths(unittest.TestCase):
    def bad(self, code, path, index):
        for ask in (run, following, breaking):
            with self.assertRaises(BadPath) as caught:
                ask(code, path)
            self.assertEqual(caught.exception.index, index, path)

    def test_what_is_no_tuple(self):
        for path in ([0], [], (), {0: 0}, {0}, "0", "", 0, 1, range(1), *STRANGE):
            if not (isinstance(path, tuple) and path):
                self.bad(PAIR, path, None)

    def test_the_first_item(self):
        for item in (1, -1, 4, "0", "", b"\x00", 10 ** 999, *STRANGE):
            self.bad(PAIR, (item,), 0)
            self.bad(PAIR, (item, 1, 2), 0)

    def test_later_items(self):
        for item in (0, 1, 3, 4, -1, 60, "2", 10 ** 999, *STRANGE):
            self.bad(PAIR, (0, 1, item), 2)
            self.bad(PAIR, (0, 1, item, 3), 2)

    def test_true_and_false_are_no_places(self):
        self.bad(PAIR, (False,), 0)
        self.bad(PAIR, (0, True), 1)
        code = (("branch", 0), ("return",))
        self.bad(code, (0, False), 1)
        self.bad(code, (0, True), 1)
        self.bad(code, (0, Same()), 1)

    def test_behind_the_last_place(self):
        self.bad((("work", "p"),), (0, 1), 1)
        self.bad((("branch", 0),), (0, 0, 1), 2)

    def test_behind_a_return(self):
        self.bad(PAIR, (0, 1, 2, 3, 0), 4)
        self.bad((("return",), ("return",)), (0, 1), 1)

    def test_behind_a_break(self):
        self.bad((("pop", "p"), ("return",)), (0, 1), 1)
        self.bad((("shrink", 1), ("jump", 0)), (0, 1, 0), 1)

    def test_where_no_branch_goes(self):
        code = (("branch", 2), ("return",), ("return",), ("return",))
        self.assertEqual(run(code, (0, 1)), stop(1, 0))
        self.assertEqual(run(code, (0, 2)), stop(2, 0))
        self.bad(code, (0, 0), 1)
        self.bad(code, (0, 3), 1)

    def test_least_index_of_several(self):
        self.bad(PAIR, (0, 1, 3, 9, None), 2)
        self.bad(PAIR, (None, None), 0)

    def test_a_break_that_comes_later_in_a_loop(self):
        code = (("push", "p"), ("jump", 0))
        self.assertEqual(run(code, (0, 1) * 64), stop(1, -64, {at: ("first", "p") for at in range(-64, 0)}))
        self.assertEqual(breaking(code, (0, 1) * 64 + (0,)), ("sp",))
        self.bad(code, (0, 1) * 65, 129)

    def test_long_paths(self):
        code = (("push", "p"), ("pop", "q"), ("branch", 0), ("return",))
        path = (0, 1, 2) * 20000
        self.assertEqual(run(code, path), stop(2, 0, {-1: ("first", "p")}, q=("first", "p")))
        self.assertEqual(following(code, path), (0, 3))
        self.assertEqual(breaking(code, path + (3,)), ())
        self.bad(code, path + (3, 3), 60001)

    def test_a_wrong_code_comes_first(self):
        for ask in (run, following, breaking):
            for code, place in (((), None), ([("return",)], None), ((("jump", 1),), 0), (PAIR + (0,), 4)):
                for path in ((0,), (), None, (9,)):
                    with self.assertRaises(BadCode) as caught:
                        ask(code, path)
                    self.assertEqual(caught.exception.place, place)


class Conventions(unittest.TestCase):
    def test_by_name(self):
        self.assertEqual(run(code=PAIR, path=(0,)), stop(0, 0))
        self.assertEqual(run(path=(0, 1), code=PAIR), run(PAIR, (0, 1)))
        self.assertEqual(following(path=(0, 1), code=PAIR), (2,))
        self.assertEqual(breaking(path=(0, 1), code=PAIR), ())

    def test_arguments_stay_and_equal_calls_are_equal(self):
        code = (("point", "x", 0), ("push", "x"), ("call", "f"), ("branch", 1), ("return",))
        path = (0, 1, 2, 3, 1)
        before = copy.deepcopy((code, path))
        for ask in (run, following, breaking):
            self.assertEqual(ask(code, path), ask(code, path))
            self.assertEqual(ask(code, path), ask(*before))
        self.assertEqual((code, path), before)

    def test_a_run_leaves_nothing_for_the_next_one(self):
        first = run(PAIR, (0, 1, 2))
        run((("store", "sp", 0, "p"), ("work", "q"), ("return",)), (0, 1, 2))
        self.assertEqual(run(PAIR, (0, 1, 2)), first)
        self.assertEqual(run(PAIR, (0,)), stop(0, 0))

    def test_plain_tuples_are_returned(self):
        code = (("point", "x", 0), ("push", "x"), ("call", "f"), ("branch", 1), ("return",))
        for ask in (run, following, breaking):
            for many in range(1, 5):
                self.assertTrue(is_plain(ask(code, (0, 1, 2, 3)[:many])))


if __name__ == "__main__":
    unittest.main()
