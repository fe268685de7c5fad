import copy
import inspect
import unittest

from helpers import MANY, STRANGE, TOO_MANY, Same, is_plain
from unwindrows.books import Book, under
from unwindrows.errors import BadCode, BadItem, Missing, TooMany
from unwindrows.tables import least_table

PAIR = (("push", "p"), ("work", "p"), ("pop", "p"), ("return",))
FORK = (("branch", 2), ("push", "p"), ("return",))
RETURN = (("return",),)
NOT_NAMES = ("", "abcdefghi", "F", "f1", "f g", "f\n", 0, -1, 10 ** 999, ("f",), ["f"], {"f": 0}, *STRANGE)


def book_of(**codes):
    book = Book()
    for name, code in codes.items():
        book[name] = code
    return book


class Functions(unittest.TestCase):
    def missing(self, name, ask, *arguments):
        with self.assertRaises(Missing) as caught:
            ask(*arguments)
        self.assertIs(caught.exception.name, name)

    def test_empty(self):
        book = Book()
        self.assertEqual((len(book), book.names(), book.found()), (0, (), 0))
        self.assertIs("f" in book, False)

    def test_setting_and_getting(self):
        book = book_of(g=PAIR, f=FORK)
        self.assertEqual(book["f"], FORK)
        self.assertEqual(book["g"], PAIR)
        self.assertEqual((len(book), book.names()), (2, ("f", "g")))
        self.assertIs("f" in book, True)
        book["f"] = RETURN
        self.assertEqual((book["f"], len(book)), (RETURN, 2))

    def test_names_ascend(self):
        book = book_of(b=PAIR, ab=PAIR, a=PAIR, zz=PAIR, z=PAIR)
        self.assertEqual(book.names(), ("a", "ab", "b", "z", "zz"))
        self.assertTrue(is_plain(book.names()))

    def test_missing(self):
        book = book_of(f=PAIR)
        for name in ("g", "ff", *NOT_NAMES):
            self.missing(name, lambda: book[name])
            self.missing(name, book.forget, name)
            self.missing(name, book.table, name)
            self.assertIs(name in book, False)
        self.assertEqual((len(book), book.found()), (1, 0))

    def test_missing_is_a_key_error(self):
        with self.assertRaises(KeyError):
            Book()["f"]

    def test_what_is_no_name(self):
        book = book_of(f=PAIR)
        for name in NOT_NAMES:
            for code in (PAIR, None, ()):
                with self.assertRaises(BadItem) as caught:
                    book[name] = code
                self.assertIs(caught.exception.value, name)
        self.assertEqual(book.names(), ("f",))
        for name in ("a", "abcdefgh", "sp", "push"):
            book[name] = RETURN
            self.assertEqual(book[name], RETURN)

    def test_what_is_no_code(self):
        book = book_of(f=PAIR)
        for code, place in ((None, None), ((), None), ([("return",)], None), ((("jump", 1),), 0), (PAIR + (0,), 4), (Same(), None)):
            for name in ("f", "g"):
                with self.assertRaises(BadCode) as caught:
                    book[name] = code
                self.assertEqual(caught.exception.place, place)
        self.assertEqual((book.names(), book["f"]), (("f",), PAIR))

    def test_forget(self):
        book = book_of(f=PAIR, g=FORK)
        self.assertIsNone(book.forget("f"))
        self.assertEqual((book.names(), len(book), "f" in book), (("g",), 1, False))
        self.missing("f", book.forget, "f")
        book.forget(name="g")
        self.assertEqual(len(book), 0)
        book["f"] = RETURN
        self.assertEqual(book["f"], RETURN)

    def test_books_are_not_iterated_over(self):
        with self.assertRaises(TypeError):
            iter(book_of(f=PAIR))


class Tables(unittest.TestCase):
    def test_found_once(self):
        book = book_of(f=PAIR, g=FORK)
        self.assertEqual(book.found(), 0)
        for _ in range(3):
            self.assertEqual(book.table("f"), least_table(PAIR))
            self.assertEqual(book.found(), 1)
        for _ in range(2):
            self.assertEqual(book.table(name="g"), least_table(FORK))
            self.assertEqual(book.found(), 2)

    def test_kept_until_another_code_comes(self):
        book = book_of(f=PAIR, g=FORK)
        book.table("f"), book.table("g")
        book["f"] = RETURN
        self.assertEqual(book.found(), 2)
        self.assertEqual(book.table("f"), least_table(RETURN))
        self.assertEqual(book.found(), 3)
        book.table("g")
        self.assertEqual(book.found(), 3)
        book["f"] = PAIR
        self.assertEqual((book.table("f"), book.found()), (least_table(PAIR), 4))

    def test_an_equal_code_is_not_another_one(self):
        book = book_of(f=PAIR)
        book.table("f")
        book["f"] = tuple(tuple(step) for step in PAIR)
        book.table("f")
        self.assertEqual(book.found(), 1)

    def test_kept_until_it_is_forgotten(self):
        book = book_of(f=PAIR)
        book.table("f")
        book.forget("f")
        with self.assertRaises(Missing):
            book.table("f")
        book["f"] = PAIR
        book.table("f")
        self.assertEqual(book.found(), 2)

    def test_refused_codes_change_nothing(self):
        book = book_of(f=PAIR)
        book.table("f")
        with self.assertRaises(BadCode):
            book["f"] = ()
        book.table("f")
        self.assertEqual(book.found(), 1)

    def test_too_many(self):
        book = book_of(f=TOO_MANY, g=MANY)
        for _ in range(2):
            with self.assertRaises(TooMany) as caught:
                book.table("f")
            self.assertEqual(caught.exception.most, 2000)
            self.assertEqual(book.found(), 0)
        book.table("g")
        self.assertEqual(book.found(), 1)

    def test_books_do_not_meet(self):
        one, other = book_of(f=PAIR), book_of(f=PAIR)
        one.table("f")
        self.assertEqual((one.found(), other.found()), (1, 0))
        other["f"] = RETURN
        self.assertEqual(one["f"], PAIR)


class Equal(unittest.TestCase):
    def test_the_same_functions(self):
        one, other = book_of(f=PAIR, g=FORK), book_of(g=FORK, f=PAIR)
        self.assertTrue(one == other)
        self.assertFalse(one != other)
        one.table("f")
        self.assertTrue(one == other)
        self.assertTrue(Book() == Book())

    def test_other_functions(self):
        one = book_of(f=PAIR, g=FORK)
        for other in (Book(), book_of(f=PAIR), book_of(f=PAIR, h=FORK), book_of(f=FORK, g=PAIR), book_of(f=PAIR, g=FORK, h=PAIR)):
            self.assertFalse(one == other)
            self.assertTrue(one != other)

    def test_other_things(self):
        for thing in ({"f": PAIR}, "book", 0, *STRANGE):
            self.assertIs(book_of(f=PAIR) == thing, False)
            self.assertIs(book_of(f=PAIR) != thing, True)
            self.assertIs(Book() == thing, False)


class Failure(Exception):
    pass


class Trials(unittest.TestCase):
    def changed(self, book):
        """Changes functions and tables in all ways."""
        book["f"] = RETURN
        book["new"] = FORK
        book.forget("g")
        book.table("f"), book.table("new")

    def test_all_is_as_it_was(self):
        book = book_of(f=PAIR, g=FORK)
        book.table("g")
        with book.trial() as one:
            self.assertIs(one, book)
            self.changed(book)
            self.assertEqual(book.names(), ("f", "new"))
        self.assertEqual(book.names(), ("f", "g"))
        self.assertTrue(book == book_of(f=PAIR, g=FORK))
        self.assertEqual((book["f"], book["g"]), (PAIR, FORK))

    def test_found_goes_on_counting(self):
        book = book_of(f=PAIR, g=FORK)
        book.table("g")
        with book.trial():
            self.changed(book)
            self.assertEqual(book.found(), 3)
        self.assertEqual(book.found(), 3)
        # The TABLE of g is kept as it was, the one of f was not there.
        book.table("g")
        self.assertEqual(book.found(), 3)
        self.assertEqual(book.table("f"), least_table(PAIR))
        self.assertEqual(book.found(), 4)

    def test_tables_that_are_found_in_a_trial_are_not_kept(self):
        book = book_of(f=PAIR)
        with book.trial():
            book.table("f")
        self.assertEqual(book.found(), 1)
        book.table("f")
        self.assertEqual(book.found(), 2)

    def test_a_table_that_was_kept_comes_back(self):
        book = book_of(f=PAIR)
        book.table("f")
        for deed in (lambda: book.forget("f"), lambda: book.__setitem__("f", RETURN)):
            with book.trial():
                deed()
            self.assertEqual((book.table("f"), book.found()), (least_table(PAIR), 1))

    def test_an_exception_passes_on(self):
        book = book_of(f=PAIR, g=FORK)
        for error in (Failure, KeyError, ValueError, TypeError):
            with self.assertRaises(error):
                with book.trial() as one:
                    self.changed(one)
                    raise error("why")
            self.assertTrue(book == book_of(f=PAIR, g=FORK))
        with self.assertRaises(Missing) as caught:
            with book.trial():
                self.changed(book)
                book["g"]
        self.assertEqual(caught.exception.name, "g")
        self.assertTrue(book == book_of(f=PAIR, g=FORK))
        with self.assertRaises(TooMany):
            with book.trial():
                book["f"] = TOO_MANY
                book.table("f")
        self.assertEqual(book["f"], PAIR)

    def test_a_block_that_is_left(self):
        book = book_of(f=PAIR)

        def left():
            with book.trial():
                book["g"] = FORK
                return book.names()

        self.assertEqual(left(), ("f", "g"))
        self.assertEqual(book.names(), ("f",))
        for _ in range(2):
            with book.trial():
                book.forget("f")
                continue
        self.assertEqual(book.names(), ("f",))

    def test_trials_within_trials(self):
        book = book_of(f=PAIR)
        with book.trial() as outer:
            outer["g"] = FORK
            book.table("g")
            with book.trial() as inner:
                self.assertIs(inner, book)
                inner.forget("f")
                inner["g"] = RETURN
                with book.trial():
                    book.forget("g")
                    self.assertEqual(len(book), 0)
                self.assertEqual(book.names(), ("g",))
            self.assertEqual((book.names(), book["g"]), (("f", "g"), FORK))
            book.table("g")
            self.assertEqual(book.found(), 1)
        self.assertEqual(book.names(), ("f",))

    def test_an_inner_trial_that_fails(self):
        book = book_of(f=PAIR)
        with book.trial():
            book["g"] = FORK
            with self.assertRaises(Failure):
                with book.trial():
                    self.changed(book)
                    raise Failure
            self.assertEqual(book.names(), ("f", "g"))
        self.assertEqual(book.names(), ("f",))

    def test_a_trial_that_is_made_ahead_of_a_deed(self):
        book = book_of(f=PAIR)
        trial = book.trial()
        book["g"] = FORK
        book.table("g")
        with trial:
            book.forget("g")
            book.forget("f")
        # What counts is the beginning of the block.
        self.assertEqual(book.names(), ("f", "g"))
        book.table("g")
        self.assertEqual(book.found(), 1)

    def test_a_trial_that_is_never_begun(self):
        book = book_of(f=PAIR)
        book.trial()
        book["g"] = FORK
        self.assertEqual(book.names(), ("f", "g"))

    def test_behind_a_trial_all_goes_on(self):
        book = book_of(f=PAIR)
        with book.trial():
            book.forget("f")
        book["g"] = FORK
        book["f"] = RETURN
        book.table("f")
        self.assertEqual((book.names(), book["f"], book.found()), (("f", "g"), RETURN, 1))
        with book.trial():
            book["h"] = FORK
        self.assertEqual(book.names(), ("f", "g"))


class Under(unittest.TestCase):
    def test_what_the_deed_returns(self):
        book = book_of(f=PAIR)

        def deed(one):
            self.assertIs(one, book)
            one["g"] = FORK
            return one.names()

        self.assertEqual(under(book.trial(), deed), ("f", "g"))
        self.assertEqual(book.names(), ("f",))
        self.assertIsNone(under(manager=book.trial(), deed=lambda one: None))
        self.assertIs(under(deed=lambda one: one, manager=book.trial()), book)

    def test_an_exception_passes_on(self):
        book = book_of(f=PAIR)
        with self.assertRaises(Missing):
            under(book.trial(), lambda one: (one.forget("f"), one["f"]))
        self.assertEqual(book.names(), ("f",))

    def test_under_under(self):
        book = book_of(f=PAIR)

        def deed(one):
            one["g"] = FORK
            inner = under(one.trial(), lambda other: (other.forget("f"), other.names())[1])
            return inner, one.names()

        self.assertEqual(under(book.trial(), deed), (("g",), ("f", "g")))
        self.assertEqual(book.names(), ("f",))

    def test_any_manager(self):
        class Manager:
            def __init__(self):
                self.told = []

            def __enter__(self):
                self.told.append("in")
                return 7

            def __exit__(self, kind, value, trace):
                self.told.append(kind)

        manager = Manager()
        self.assertEqual(under(manager, lambda one: one + 1), 8)
        with self.assertRaises(ZeroDivisionError):
            under(manager, lambda one: one // 0)
        self.assertEqual(manager.told, ["in", None, "in", ZeroDivisionError])


class Conventions(unittest.TestCase):
    def test_each_method_is_its_own(self):
        for name in (
            "__init__", "__getitem__", "__setitem__", "__contains__", "__len__", "__eq__", "forget", "names", "table",
            "found", "trial",
        ):
            self.assertIn(name, vars(Book))
        self.assertEqual(list(inspect.signature(Book).parameters), [])
        for method in (Book.forget, Book.table):
            self.assertEqual(list(inspect.signature(method).parameters), ["self", "name"])
        self.assertEqual(list(inspect.signature(under).parameters), ["manager", "deed"])

    def test_plain_things_and_arguments_stay(self):
        before = copy.deepcopy(PAIR)
        book = book_of(f=PAIR)
        self.assertTrue(is_plain(book.table("f")))
        self.assertTrue(is_plain(book["f"]))
        self.assertIs(type(book.found()), int)
        self.assertIs(type(len(book)), int)
        self.assertIs(type("f" in book), bool)
        self.assertEqual(PAIR, before)


if __name__ == "__main__":
    unittest.main()
