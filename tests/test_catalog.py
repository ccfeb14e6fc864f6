"""Points 3 to 6, and point 2 for the catalog."""

import itertools
import unittest

from shelfterms.catalog import Catalog
from shelfterms.errors import InvalidBook, InvalidCatalog, UnknownMark
from support import NAMES, OTHER_KINDS, Asserts, Hostile, replaced

BOUND = 10 ** 12

# Eight names of twelve letters, any two of them unlike at one or two places only.
ALIKE = ("mmmmmmmmmmmm",) + tuple(
    "m" * at + "n" + "m" * (11 - at) for at in (0, 1, 5, 6, 9, 10, 11)
)
LENGTHS = ("a", "bz", "abc", "xyzw", "seven", "zzzzzzzz", "abcdefghijk", "abcdefghijkl")

GOOD = (
    ("a",),
    ("z",),
    ("height",),
    ("abcdefghijkl",),
    ("mnopqrstuvwx",),
    ("height", "year"),
    ("year", "height"),
    ("z", "zz"),
    ("ab", "a"),
    ("ab", "ba"),
    ("zzzzzzzzzzzz", "zzzzzzzzzzzy"),
    ("self", "cls", "names"),
    ("a", "aa", "aaa"),
    ("aba", "abb", "abc"),
    NAMES,
    NAMES[::-1],
    ALIKE,
    LENGTHS,
    ("aaaaaaaaaaaa", "b", "y", "yz", "value", "values", "named", "z"),
)

NO_NAMES = (
    "", "abcdefghijklm", "a" * 24, "A", "Z", "aB", "Ab", "a1", "1", "0", " ", "a b", " a", "a ",
    "a\n", "\n", "\ta", "a-b", "_", "a_b", ".", "a,b", "?", "`", "{", "@", "[", "/", "abcdefghijkL",
    "\u00e9", "a\u00df", "\uff41", "\u00aa", "\u0430",
    0, 1, -1, 12, 10 ** 30, ("a",), (), ("a", "b"), b"abc", *OTHER_KINDS,
)

ABSENT = (
    "q", "qqqqqqqqqqqq", "heigh", "heights", "eight", "mmmmmmmmmmm", "nmmmmmmmmmmn", "yearheight",
    "", " ", "A", "Z", "HEIGHT", "Height", "YEAR", "a ", " a", "a b", "height year", "height,year",
    "a\n", "1", "%", "?", "a,", "('a',)",
)


def numbers(count):
    return tuple(range(1, count + 1))


class CatalogNames(Asserts, unittest.TestCase):

    def test_names(self):
        for names in GOOD:
            with self.subTest(names=names):
                self.assert_same(Catalog(*names).names, names)

    def test_the_names_are_set_on_the_object(self):
        first, second = Catalog("a", "b"), Catalog("c")
        self.assertEqual((first.names, second.names), (("a", "b"), ("c",)))

    def test_a_list_of_names_is_copied(self):
        given = ["a", "b"]
        catalog = Catalog(*given)
        given[0] = "c"
        self.assertEqual(catalog.names, ("a", "b"))

    def test_len(self):
        for names in GOOD:
            self.assert_same(len(Catalog(*names)), len(names))

    def test_each_name_is_in_and_has_its_index(self):
        for names in GOOD:
            catalog = Catalog(*names)
            for at, name in enumerate(names):
                with self.subTest(names=names, name=name):
                    self.assertIs(name in catalog, True)
                    self.assertIs(name not in catalog, False)
                    self.assert_same(catalog.index_of(name), at)
                    # A string of its own, equal to the name but not the same object.
                    again = "".join(list(name))
                    self.assertIs(again in catalog, True)
                    self.assert_same(catalog.index_of(again), at)

    def test_other_strings_are_not_in_and_have_no_index(self):
        for names in GOOD:
            catalog = Catalog(*names)
            others = [name for other in GOOD for name in other]
            for word in [*ABSENT, *others]:
                if word in names:
                    continue
                with self.subTest(names=names, word=word):
                    self.assertIs(word in catalog, False)
                    self.assertIs(word not in catalog, True)
                    with self.assertRaises(UnknownMark) as caught:
                        catalog.index_of(word)
                    self.assert_same(caught.exception.name, word)

    def test_index_of_takes_its_argument_by_name(self):
        self.assertEqual(Catalog("a", "b").index_of(name="b"), 1)

    def test_asking_changes_nothing(self):
        catalog = Catalog("height", "year")
        with self.assertRaises(UnknownMark):
            catalog.index_of("q")
        self.assertFalse("q" in catalog)
        self.assertEqual(catalog.names, ("height", "year"))


class CatalogEquality(Asserts, unittest.TestCase):

    def test_same_names_in_the_same_order(self):
        for names in GOOD:
            catalog = Catalog(*names)
            self.assert_equal_both_ways(catalog, catalog, True)
            copies = ["".join(list(name)) for name in names]
            self.assert_equal_both_ways(catalog, Catalog(*copies), True)
        self.assert_equal_both_ways(Catalog.numbered(3), Catalog("a", "b", "c"), True)

    def test_other_names(self):
        for first, second in itertools.permutations(GOOD, 2):
            with self.subTest(first=first, second=second):
                self.assert_equal_both_ways(Catalog(*first), Catalog(*second), False)

    def test_one_other_name_at_each_place(self):
        for count in range(1, 9):
            names = NAMES[:count]
            for at in range(count):
                for other in ("q", names[at] + "a", "aaaaaaaaaaaa"):
                    changed = replaced(names, at, other)
                    self.assert_equal_both_ways(Catalog(*names), Catalog(*changed), False)

    def test_another_order(self):
        for names in itertools.permutations(("a", "b", "c")):
            expected = names == ("a", "b", "c")
            self.assert_equal_both_ways(Catalog("a", "b", "c"), Catalog(*names), expected)
        for at in range(7):
            swapped = (*NAMES[:at], NAMES[at + 1], NAMES[at], *NAMES[at + 2:])
            self.assert_equal_both_ways(Catalog(*NAMES), Catalog(*swapped), False)

    def test_a_catalog_that_begins_or_ends_as_the_other(self):
        for few, many in itertools.combinations(range(1, 9), 2):
            self.assert_equal_both_ways(Catalog(*NAMES[:few]), Catalog(*NAMES[:many]), False)
            self.assert_equal_both_ways(Catalog(*NAMES[-few:]), Catalog(*NAMES[-many:]), False)

    def test_values_of_other_kinds(self):
        for names in GOOD:
            catalog = Catalog(*names)
            kinds = (
                names, list(names), names[0], "".join(names), set(names), len(names), (names,),
                {name: at for at, name in enumerate(names)}, Catalog, catalog.index_of,
                InvalidCatalog(names), "", (), 0, *OTHER_KINDS,
            )
            for value in kinds:
                self.assert_equal_both_ways(catalog, value, False)

    def test_a_look_alike_of_another_class(self):
        class LookAlike:
            names = ("a", "b")

        self.assert_equal_both_ways(Catalog("a", "b"), LookAlike(), False)


class InvalidCatalogs(Asserts, unittest.TestCase):

    def assert_invalid(self, values):
        with self.assertRaises(InvalidCatalog) as caught:
            Catalog(*values)
        self.assert_identical_items(caught.exception.names, values)

    def test_no_name(self):
        self.assert_invalid(())

    def test_too_many_names(self):
        self.assert_invalid((*NAMES, "i"))
        self.assert_invalid((*ALIKE, "a"))
        self.assert_invalid((*NAMES, "i", "j"))
        self.assert_invalid((*NAMES, *NAMES))
        self.assert_invalid(tuple("abcdefghijklmnopqrstuvwxyz"))

    def test_a_value_that_is_no_name_at_each_place(self):
        for count in range(1, 9):
            for at in range(count):
                for value in NO_NAMES:
                    self.assert_invalid(replaced(NAMES[:count], at, value))

    def test_only_values_that_are_no_names(self):
        for count in (1, 2, 8, 9):
            for value in NO_NAMES:
                self.assert_invalid((value,) * count)

    def test_the_name_of_another_place(self):
        for names in (NAMES, ALIKE, LENGTHS):
            for count in range(2, 9):
                for at, other in itertools.permutations(range(count), 2):
                    again = "".join(list(names[other]))
                    self.assert_invalid(replaced(names[:count], at, again))

    def test_a_tuple_or_list_of_names(self):
        self.assert_invalid((NAMES,))
        self.assert_invalid((list(NAMES),))


class Numbered(Asserts, unittest.TestCase):

    def test_one_to_eight(self):
        for count in range(1, 9):
            catalog = Catalog.numbered(count)
            self.assertIs(type(catalog), Catalog)
            self.assert_same(catalog.names, NAMES[:count])

    def test_other_numbers(self):
        for count in (0, -1, -2, -7, -8, -9, 9, 10, 16, 26, 27, 10 ** 12, -10 ** 12, 2 ** 64, 10 ** 5000):
            for asked in (Catalog, Catalog("a", "b")):
                with self.assertRaises(InvalidCatalog) as caught:
                    asked.numbered(count)
                self.assert_same(caught.exception.names, ())

    def test_it_is_called_off_an_object_or_with_a_keyword(self):
        self.assertEqual(Catalog("x", "y").numbered(3).names, ("a", "b", "c"))
        self.assertEqual(Catalog.numbered(count=2).names, ("a", "b"))

    def test_most(self):
        self.assert_same(Catalog.MOST, 8)
        self.assert_same(Catalog("a").MOST, 8)


class IsBook(unittest.TestCase):

    def assert_books(self, catalog, value, expected):
        self.assertIs(catalog.is_book(value), expected)

    def test_books(self):
        for count in range(1, 9):
            catalog = Catalog.numbered(count)
            for values in (numbers(count), (0,) * count, (BOUND,) * count, (-BOUND,) * count):
                self.assert_books(catalog, values, True)
            for at in range(count):
                for value in (BOUND, -BOUND, BOUND - 1, 1 - BOUND, 0, -1):
                    self.assert_books(catalog, replaced(numbers(count), at, value), True)

    def test_the_names_do_not_matter(self):
        for names in GOOD:
            self.assert_books(Catalog(*names), (7,) * len(names), True)

    def test_values_that_are_not_as_many_as_the_marks(self):
        for count in range(1, 9):
            for other in range(18):
                if other != count:
                    self.assert_books(Catalog.numbered(count), (1,) * other, False)

    def test_other_sequences_of_integers(self):
        for count in range(1, 9):
            values = numbers(count)
            others = (
                list(values), set(values), frozenset(values), dict.fromkeys(values), iter(values),
                range(1, count + 1), bytes(values), "1" * count, (values,), [values],
            )
            for value in others:
                self.assert_books(Catalog.numbered(count), value, False)

    def test_a_wrong_value_at_each_place(self):
        wrong = (
            BOUND + 1, -BOUND - 1, 2 * BOUND, 10 ** 13, -10 ** 13, 10 ** 5000, -10 ** 5000,
            "", "1", "a", (), (1,), *OTHER_KINDS, Hostile(),
        )
        for count in range(1, 9):
            for at in range(count):
                for value in wrong:
                    self.assert_books(Catalog.numbered(count), replaced(numbers(count), at, value), False)

    def test_values_of_other_kinds(self):
        values = ("", "a", "ab", (), 0, 1, 2, -BOUND, Catalog, Catalog("a"), *OTHER_KINDS, Hostile())
        for names in GOOD:
            for value in values:
                self.assert_books(Catalog(*names), value, False)

    def test_what_is_asked_stays_as_it_was(self):
        value = [1, 2]
        self.assertIs(Catalog("a", "b").is_book(value), False)
        self.assertEqual(value, [1, 2])

    def test_it_takes_its_argument_by_name(self):
        self.assertIs(Catalog("a", "b").is_book(value=(1, 2)), True)


class MakeBook(Asserts, unittest.TestCase):

    def test_by_position(self):
        for count in range(1, 9):
            values = numbers(count)
            self.assert_same(Catalog.numbered(count).make_book(*values), values)
            self.assert_same(Catalog.numbered(count).make_book(*values[::-1]), values[::-1])

    def test_some_by_name_in_either_order(self):
        for count in range(1, 9):
            values = numbers(count)
            for given in range(count + 1):
                named = list(zip(NAMES[given:count], values[given:]))
                for order in (named, named[::-1], named[1:] + named[:1]):
                    book = Catalog.numbered(count).make_book(*values[:given], **dict(order))
                    self.assert_same(book, values)

    def test_all_by_name_in_each_order(self):
        catalog = Catalog("height", "year", "a", "pages")
        named = {"height": 3, "year": -1990, "a": 0, "pages": 12}
        for order in itertools.permutations(named):
            book = catalog.make_book(**{name: named[name] for name in order})
            self.assert_same(book, (3, -1990, 0, 12))

    def test_names_that_python_or_the_program_use_itself(self):
        catalog = Catalog("values", "named", "cls", "book", "name", "names", "value", "class")
        named = {name: at for at, name in enumerate(catalog.names)}
        self.assert_same(catalog.make_book(**named), (0, 1, 2, 3, 4, 5, 6, 7))

    def test_a_mark_called_self_by_position(self):
        self.assert_same(Catalog("self", "year").make_book(5, year=6), (5, 6))
        with self.assertRaises(InvalidBook):
            Catalog("self", "year").make_book(year=6)

    def test_the_bounds(self):
        for count in range(1, 9):
            catalog = Catalog.numbered(count)
            for at in range(count):
                for value in (BOUND, -BOUND):
                    expected = replaced(numbers(count), at, value)
                    self.assert_same(catalog.make_book(*expected), expected)
                    self.assert_same(catalog.make_book(**dict(zip(NAMES, expected))), expected)

    def test_a_dict_that_is_passed_stays_as_it_was(self):
        named = {"b": 2, "a": 1}
        Catalog("a", "b").make_book(**named)
        with self.assertRaises(InvalidBook):
            Catalog("a", "b").make_book(1, **named)
        self.assertEqual(list(named.items()), [("b", 2), ("a", 1)])


class InvalidBooks(Asserts, unittest.TestCase):

    def assert_invalid(self, catalog, values, named):
        with self.assertRaises(InvalidBook) as caught:
            catalog.make_book(*values, **named)
        self.assert_identical_items(caught.exception.book, values)

    def test_a_value_missing(self):
        for count in range(1, 9):
            values, catalog = numbers(count), Catalog.numbered(count)
            for given in range(count):
                self.assert_invalid(catalog, values[:given], {})
                for missing in range(given, count):
                    named = dict(zip(NAMES[given:count], values[given:]))
                    del named[NAMES[missing]]
                    self.assert_invalid(catalog, values[:given], named)

    def test_a_value_passed_twice(self):
        for count in range(1, 9):
            values, catalog = numbers(count), Catalog.numbered(count)
            for given in range(1, count + 1):
                named = dict(zip(NAMES[given:count], values[given:]))
                for twice in range(given):
                    # The same value again is wrong, too.
                    for value in (values[twice], 99, None):
                        self.assert_invalid(catalog, values[:given], {**named, NAMES[twice]: value})
                        self.assert_invalid(catalog, values[:given], {NAMES[twice]: value, **named})

    def test_one_passed_twice_and_another_missing(self):
        for count in range(2, 9):
            values, catalog = numbers(count), Catalog.numbered(count)
            for given in range(1, count):
                for twice in range(given):
                    named = dict(zip(NAMES[given:count - 1], values[given:]))
                    self.assert_invalid(catalog, values[:given], {**named, NAMES[twice]: 9})

    def test_a_name_that_the_catalog_does_not_have(self):
        words = ("q", "aa", "A", "", " ", "a b", "0", "names", "heights", "?")
        for count in range(1, 9):
            values, catalog = numbers(count), Catalog.numbered(count)
            for given in range(count + 1):
                named = dict(zip(NAMES[given:count], values[given:]))
                for word in words:
                    for value in (1, None):
                        self.assert_invalid(catalog, values[:given], {**named, word: value})
                        self.assert_invalid(catalog, values[:given], {word: value, **named})
                    if named:
                        instead = {**named, word: 1}
                        del instead[NAMES[given]]
                        self.assert_invalid(catalog, values[:given], instead)

    def test_too_many_values(self):
        for count in range(1, 9):
            catalog = Catalog.numbered(count)
            for more in (1, 2, 8):
                self.assert_invalid(catalog, (1,) * (count + more), {})
                self.assert_invalid(catalog, (1,) * (count + more), {"a": 1})
                self.assert_invalid(catalog, (*numbers(count), *([None] * more)), {})

    def test_a_wrong_value_at_each_place(self):
        wrong = (
            BOUND + 1, -BOUND - 1, 2 * BOUND, -2 * BOUND, 10 ** 5000, -10 ** 5000,
            "", "1", "a", (), (1,), *OTHER_KINDS,
        )
        for count in range(1, 9):
            catalog = Catalog.numbered(count)
            for at in range(count):
                for value in wrong:
                    values = replaced(numbers(count), at, value)
                    self.assert_invalid(catalog, values, {})
                    for given in {0, at}:
                        named = dict(zip(NAMES[given:count], values[given:]))
                        self.assert_invalid(catalog, values[:given], named)

    def test_nothing_at_all(self):
        for names in GOOD:
            self.assert_invalid(Catalog(*names), (), {})


if __name__ == "__main__":
    unittest.main()
