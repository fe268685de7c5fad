import copy
import unittest

from helpers import ANY, HOME, address, is_plain
from model import Numbers
from unwindrows.codes import PRESERVED, REGISTERS
from unwindrows.houses import Process, need_house
from unwindrows.rows import Rows
from unwindrows.rules import findings, wheres
from unwindrows.states import is_sound
from unwindrows.tables import check_table, gaps, least_table, rule_at
from unwindrows.unwinding import count_known, unwound

KEPT = (("word", 0), ("in", "p"), ("in", "q"), ("in", "r"), ("in", "s"))
LOST = ("lost",)
ALL_LOST = (LOST,) * 5
FIRST = tuple(("first", name) for name in REGISTERS)
ENTRY_TABLE = ((0, ("sp", 0), KEPT),)


def one_row(finding, *sites):
    return ((0, finding, sites + (LOST,) * (5 - len(sites))),)


def picture(name="f", place=0, sp=0, words=(), **held):
    """A PICTURE; registers that are not named are as at the beginning."""
    values = tuple(held.get(register, ("first", register)) for register in REGISTERS)
    return (name, place, sp, values, tuple(sorted(dict(words).items())))


class Ends(unittest.TestCase):
    def ends(self, word, bases, told, tables):
        """The FRAMEs, when the word and the BASEs were seen to be these."""
        frames, end = unwound(told, tables)
        self.assertEqual((end, [frame[2] for frame in frames]), (word, bases))
        self.assertTrue(is_plain(frames))
        return frames

    def test_out(self):
        process = Process((("f", (("push", "p"), ("return",))),))
        frames = self.ends("out", [0], process.picture(), {"f": ENTRY_TABLE})
        self.assertEqual(frames, (("f", 0, 0, FIRST[:4]),))

    def test_strange(self):
        for tables in ({}, {"g": ENTRY_TABLE, "ff": ENTRY_TABLE}):
            frames = self.ends("strange", [None], picture(place=7, sp=-3, q=ANY, words={0: HOME}), tables)
            self.assertEqual(frames, (("f", 7, None, (FIRST[0], None, FIRST[2], FIRST[3])),))

    def test_strange_callers(self):
        words = {-3: ("back", "g", 5), -4: ("first", "x")}
        told = picture(sp=-4, words=words)
        table = one_row(("sp", 1), ("word", 0), ("word", -1), ("in", "r"))
        frames = self.ends("strange", [-3, None], told, {"f": table})
        self.assertEqual(frames, (("f", 0, -3, FIRST[:4]), ("g", 5, None, (FIRST[4], FIRST[2], None, None))))

    def test_lost_without_a_finding(self):
        self.ends("lost", [None], picture(words={0: HOME}), {"f": one_row(None, ("in", "x"))})
        self.ends("lost", [None], picture(x=HOME), {"f": one_row(None, ("in", "x"))})

    def test_lost_without_an_address(self):
        for value in (ANY, HOME, ("back", "f", 0), ("first", "p"), ("first", "x")):
            for name in REGISTERS:
                told = picture(words={0: HOME}, **{name: value})
                self.ends("lost", [None], told, {"f": one_row((name, 0), ("word", 0))})

    def test_addresses_of_all_calls_are_addresses(self):
        for call in (0, 1, 19):
            for name in REGISTERS:
                told = picture(sp=-9, words={-2: HOME}, **{name: ("word", call, -5)})
                self.ends("out", [-2], told, {"f": one_row((name, 3), ("word", 0))})

    def test_lost_above_word_0(self):
        self.ends("lost", [None], picture(words={0: HOME}), {"f": one_row(("sp", 1), ("in", "x"))})
        self.ends("lost", [None], picture(x=HOME), {"f": one_row(("sp", 1), ("in", "x"))})
        self.ends("lost", [None], picture(p=address(-3)), {"f": one_row(("p", 4), ("word", 0))})
        self.ends("out", [0], picture(p=address(-3), words={0: HOME}), {"f": one_row(("p", 3), ("word", 0))})
        self.ends("lost", [None], picture(p=address(64)), {"f": one_row(("p", -63), ("word", 0))})
        self.ends("out", [0], picture(p=address(64), words={0: HOME}), {"f": one_row(("p", -64), ("word", 0))})

    def test_lost_where_the_base_does_not_rise(self):
        words = {-9: ("back", "g", 1), -8: ("back", "h", 0), 0: HOME}
        told = picture(sp=-9, words=words, p=address(-9))
        f = one_row(("sp", 0), ("word", 0), ("in", "p"))
        for finding, word, base in (
            (("sp", 0), "strange", -8), (("sp", -1), "lost", None), (("sp", -2), "lost", None), (("p", 0), "lost", None),
            (("p", -64), "lost", None), (("p", 1), "strange", -8), (("sp", 8), "out", 0), (("sp", 9), "lost", None),
        ):
            told_bases = [-9, base] + [None] * (word == "strange")
            self.ends(word, told_bases, told, {"f": f, "g": one_row(finding, ("word", 0))})

    def test_the_first_base_may_be_anywhere_below(self):
        # There is no FRAME ahead, so that the base may be below sp.
        self.ends("out", [-70], picture(sp=-6, words={-70: HOME}), {"f": one_row(("sp", -64), ("word", 0))})

    def test_lost_without_the_return_address(self):
        told = picture(sp=-4, words={-3: ("first", "p"), -4: address(-3), 0: HOME}, x=ANY, y=address(0))
        for where in (
            LOST, ("word", 0), ("word", -1), ("word", -2), ("word", -64), ("in", "x"), ("in", "y"), ("in", "p"),
        ):
            frames = self.ends("lost", [-3], told, {"f": one_row(("sp", 1), where)})
            self.assertEqual(frames, (("f", 0, -3, FIRST[:4]),))

    def test_the_return_address_wherever_it_is(self):
        for where, told in (
            (("word", 0), picture(sp=-1, words={0: HOME})), (("word", -1), picture(sp=-1, words={-1: HOME})),
            (("word", -64), picture(sp=-1, words={-64: HOME})), (("in", "x"), picture(sp=-1, x=HOME)),
            (("in", "s"), picture(sp=-1, s=HOME)),
        ):
            self.ends("out", [0], told, {"f": one_row(("sp", 1), where)})

    def test_the_first_reason_counts(self):
        # No TABLE comes ahead of all, a base that is not found ahead of the return address.
        self.ends("strange", [None], picture(), {"g": one_row(None)})
        self.ends("lost", [None], picture(), {"f": one_row(None)})
        self.ends("lost", [0], picture(), {"f": one_row(("sp", 0))})


class Frames(unittest.TestCase):
    def test_example(self):
        f = (("grow", 2), ("call", "g"), ("shrink", 2), ("return",))
        g = (("push", "p"), ("work", "p"), ("pop", "p"), ("return",))
        process = Process((("f", f), ("g", g)))
        process.run(4)
        told, end = unwound(tables={"f": least_table(f), "g": least_table(g)}, picture=process.picture())
        self.assertEqual(end, "out")
        self.assertEqual(told, (("g", 2, -3, (None,) + FIRST[1:4]), ("f", 2, 0, FIRST[:4])))

    def test_what_is_known(self):
        words = {-1: ("first", "x"), -2: address(-7), -9: ("first", "q"), 0: ("back", "g", 2)}
        told = picture(sp=-2, words=words, p=ANY, x=("first", "s"))
        f = one_row(("sp", 2), ("word", 0), ("word", -1), ("word", -2), ("word", -3), ("in", "x"))
        frames, end = unwound(told, {"f": f})
        self.assertEqual(end, "strange")
        self.assertEqual(frames[0], ("f", 0, 0, (None,) + FIRST[1:4]))
        self.assertEqual(frames[1], ("g", 2, None, (("first", "x"), address(-7), None, ("first", "s"))))
        f = one_row(("sp", 2), ("word", 0), ("in", "p"), ("word", -9), LOST, ("in", "q"))
        frames, _ = unwound(told, {"f": f})
        self.assertEqual(frames[1][3], (None, ("first", "q"), None, ("first", "q")))

    def test_sp_of_a_caller(self):
        words = {-5: ("back", "g", 2), -2: ("back", "h", 3), 0: HOME}
        g = one_row(("sp", 2), ("word", 0))
        h = one_row(("sp", 1), ("word", 0))
        frames, end = unwound(picture(sp=-5, words=words), {"f": one_row(("sp", 0), ("word", 0)), "g": g, "h": h})
        self.assertEqual(([frame[:3] for frame in frames], end), ([("f", 0, -5), ("g", 2, -2), ("h", 3, 0)], "out"))

    def test_x_and_y_are_known_in_the_first_frame_only(self):
        words = {-5: ("back", "f", 0), 0: HOME}
        for name in ("x", "y"):
            table = one_row((name, 1), ("word", 0))
            frames, end = unwound(picture(sp=-6, words=words, **{name: address(-6)}), {"f": table})
            self.assertEqual(([frame[2] for frame in frames], end), ([-5, None], "lost"))
            table = one_row(("sp", 1), ("in", name))
            frames, end = unwound(picture(sp=-6, words=words, **{name: ("back", "f", 3)}), {"f": table})
            self.assertEqual(([frame[2] for frame in frames], end), ([-5, -3], "lost"))
            table = one_row(("sp", 1), ("word", 0), ("in", name))
            frames, _ = unwound(picture(sp=-6, words=words, **{name: ("first", "s")}), {"f": table, "g": table})
            self.assertEqual([frame[3][0] for frame in frames], [("first", "p"), ("first", "s")])

    def test_registers_that_are_lost_on_the_way(self):
        words = {-9: ("back", "g", 0), -5: HOME}
        for where, bases, word in (
            (LOST, [-9, None], "lost"), (("in", "x"), [-9, None], "lost"), (("word", -1), [-9, None], "lost"),
            (("in", "q"), [-9, -5], "out"),
        ):
            tables = {"f": one_row(("sp", 0), ("word", 0), where), "g": one_row(("p", 0), ("word", 0))}
            frames, end = unwound(picture(sp=-9, words=words, q=address(-5), x=ANY), tables)
            self.assertEqual(([frame[2] for frame in frames], end), (bases, word))
            self.assertEqual(frames[1][3][0], address(-5) if word == "out" else None)

    def test_a_return_address_behind_the_last_place(self):
        table = ((0, None, ALL_LOST), (59, ("sp", 0), KEPT))
        frames, end = unwound(picture(place=59, sp=-1, words={-1: ("back", "f", 60), 0: HOME}), {"f": table})
        self.assertEqual(([frame[:3] for frame in frames], end), ([("f", 59, -1), ("f", 60, 0)], "out"))
        code = (("work", "x"),) * 59 + (("call", "g"),)
        process = Process((("f", code), ("g", (("jump", 0),))))
        process.run(61)
        tables = {"f": ENTRY_TABLE, "g": ENTRY_TABLE}
        frames, end = unwound(process.picture(), tables)
        self.assertEqual(([frame[:3] for frame in frames], end), ([("g", 0, -1), ("f", 60, 0)], "out"))

    def test_rules_of_the_places(self):
        table = ((0, ("sp", 0), KEPT), (3, ("sp", 1), KEPT), (7, ("sp", 2), KEPT))
        for place, base in ((0, -3), (2, -3), (3, -2), (6, -2), (7, -1), (59, -1)):
            frames, _ = unwound(picture(place=place, sp=-3, words={base: HOME}), {"f": table})
            self.assertEqual(frames[0][2], base)

    def test_all_calls(self):
        f = (("push", "p"), ("call", "f"), ("pop", "p"), ("return",))
        process = Process((("f", f),))
        process.run(39)
        frames, end = unwound(process.picture(), {"f": least_table(f)})
        self.assertEqual((len(frames), end), (20, "out"))
        self.assertEqual([frame[2] for frame in frames], [call[2] for call in process.calls()])

    def test_arguments_stay(self):
        told = picture(sp=-1, words={-1: ("back", "g", 2), 0: HOME})
        tables = {"f": one_row(("sp", 0), ("word", 0)), "g": one_row(("sp", 0), ("word", 0))}
        before = copy.deepcopy((told, tables))
        self.assertEqual(unwound(told, tables), unwound(*before))
        self.assertEqual((told, tables), before)
        self.assertEqual(list(tables), ["f", "g"])


class Known(unittest.TestCase):
    def test_counts(self):
        self.assertEqual(count_known(()), 0)
        self.assertEqual(count_known(frames=[]), 0)
        full = ("f", 0, 0, FIRST[:4])
        for known, many in (
            ((None,) * 4, 0), ((None, None, FIRST[0], None), 1), ((FIRST[0], None, HOME, address(0)), 3), (FIRST[:4], 4),
        ):
            self.assertEqual(count_known((("f", 0, 0, known),)), many)
            self.assertEqual(count_known((full, ("g", 1, None, known), full)), 8 + many)
        self.assertEqual(count_known((full,) * 500), 2000)


def sound_code(numbers, names):
    """A SOUND CODE that saves registers, does something, and may keep the base in a register."""
    saved = [name for name in PRESERVED if numbers.below(3)]
    pointer = saved[numbers.below(len(saved))] if saved and numbers.below(2) else None
    free = [name for name in saved if name != pointer] + ["x", "y"]
    grown = numbers.below(4)
    code = [("push", name) for name in saved]
    if pointer:
        code.append(("point", pointer, len(saved)))
    if grown:
        code.append(("grow", grown))
    for _ in range(1 + numbers.below(6)):
        kind = numbers.below(9)
        if kind < 3:
            code.append(("work", numbers.one_of(free)))
        elif kind == 3:
            code.append(("move", numbers.one_of(free), numbers.one_of(REGISTERS)))
        elif kind == 4 and pointer:
            # Behind it, sp alone does not find the base.
            code += [("branch", len(code) + 2), ("grow", 1 + numbers.below(3))]
        elif kind == 5 and grown:
            code.append(("store", "sp", numbers.below(grown), numbers.one_of(REGISTERS)))
        elif kind == 6:
            code.append(("point", numbers.one_of(free), numbers.below(3)))
        else:
            code += [("branch", len(code) + 2), ("call", numbers.one_of(names))]
    if pointer:
        code.append(("setsp", pointer, -len(saved)))
    elif grown:
        code.append(("shrink", grown))
    code += [("pop", name) for name in reversed(saved)] + [("return",)]
    return tuple(code)


def sound_house(numbers):
    names = ("f", "g", "h", "k")[:2 + numbers.below(3)]
    house = []
    for name in names:
        code = sound_code(numbers, names + ("z",))
        assert is_sound(code), code
        house.append((name, code))
    return need_house(tuple(house))


class Theorem(unittest.TestCase):
    """Point [77], at every step of many runs."""

    def right(self, process, tables):
        """The FRAMEs and the word, when the FRAMEs were seen to be the open calls as far as they go."""
        frames, end = unwound(process.picture(), tables)
        calls = process.calls()
        self.assertLessEqual(len(frames), len(calls))
        for index, (frame, call) in enumerate(zip(frames, calls)):
            self.assertEqual(frame[:2], call[:2])
            if frame[2] is None:
                self.assertEqual((index, end), (len(frames) - 1, "lost"))
            else:
                self.assertEqual(frame[2], call[2])
            for value, held in zip(frame[3], call[3]):
                self.assertIn(value, (None, held))
                self.assertNotEqual(value, ANY)
        if end == "out":
            self.assertEqual(len(frames), len(calls))
        else:
            self.assertEqual(end, "lost")
        return frames, end

    def because(self, codes, tables, frames):
        """Why the last FRAME is lost, with FULL TABLEs."""
        name, place, base, known = frames[-1]
        finding, sites = rule_at(tables[name], place)
        if base is None:
            if finding is None:
                self.assertEqual(findings(codes[name], place), ())
                return "base"
            self.assertIsNone(dict(zip(PRESERVED, known)).get(finding[0]))
            self.assertGreater(len(frames), 1)
            return "lost ahead"
        if sites[0] == LOST:
            self.assertFalse(wheres(codes[name], place, "back"))
            return "back"
        self.assertEqual(sites[0][0], "in")
        self.assertGreater(len(frames), 1)
        return "lost ahead"

    def test_full_tables(self):
        numbers = Numbers(71)
        ends, depths, several = {}, {}, 0
        for _ in range(150):
            house = sound_house(numbers)
            codes = dict(house)
            tables = {name: least_table(code) for name, code in house}
            for name, code in house:
                self.assertIsNone(check_table(code, tables[name]))
                self.assertEqual(gaps(code, tables[name]), ())
            process = Process(house)
            word = "on"
            while word == "on" and several < 20000:
                frames, end = self.right(process, tables)
                if end == "lost":
                    end = self.because(codes, tables, frames)
                ends[end] = ends.get(end, 0) + 1
                depths[process.depth] = depths.get(process.depth, 0) + 1
                several += 1
                # A run that branches in turn would rarely come to an end.
                word = process.step(numbers.below(3) > 0)
            self.assertIn(word, ("over", "deep", "on"))
        self.assertGreater(ends.get("out", 0), 1000, ends)
        for depth in (0, 1, 2, 3):
            self.assertGreater(depths.get(depth, 0), 50, depths)

    def test_tables_that_are_right_but_not_full(self):
        numbers = Numbers(72)
        ends = {}
        for _ in range(60):
            house = sound_house(numbers)
            tables = {}
            for name, code in house:
                table = []
                for place, finding, sites in least_table(code):
                    less = [LOST if numbers.below(8) == 0 else where for where in sites]
                    if numbers.below(12) == 0:
                        finding = None
                        less = [LOST if where[0] == "word" else where for where in less]
                    table.append((place, finding, tuple(less)))
                self.assertIsNone(check_table(code, tuple(table)))
                self.assertTrue(Rows(tuple(table)).is_within(Rows(least_table(code))))
                tables[name] = tuple(table)
            process = Process(house)
            for _ in range(150):
                if process.step(numbers.below(3) > 0) != "on":
                    break
                _, end = self.right(process, tables)
                ends[end] = ends.get(end, 0) + 1
        for end in ("out", "lost"):
            self.assertGreater(ends.get(end, 0), 50, ends)

    def test_a_register_that_is_lost_ahead(self):
        # Behind the branch only p finds the base of f. A callee that loses it loses the caller.
        f = (("push", "p"), ("point", "p", 0), ("branch", 4), ("grow", 3), ("call", "g"), ("setsp", "p", 0))
        f += (("pop", "p"), ("return",))
        g = (("push", "p"), ("work", "p"), ("branch", 1), ("pop", "p"), ("return",))
        lossy = (("work", "p"), ("work", "q"), ("jump", 1))
        for other, wanted in ((g, "out"), (lossy, "lost")):
            house = (("f", f), ("g", other))
            tables = {name: least_table(code) for name, code in house}
            self.assertIsNone(check_table(f, tables["f"]))
            process = Process(house)
            self.assertEqual(process.run(5), "on")
            self.assertEqual(process.depth, 1)
            self.assertEqual(process.run(2), "on")
            frames, end = self.right(process, tables)
            self.assertEqual(end, wanted)
            if wanted == "lost":
                self.assertEqual(self.because(dict(house), tables, frames), "lost ahead")


if __name__ == "__main__":
    unittest.main()
