"""Points 17 to 21, and point 2 for the evidence."""

import itertools
import unittest

from shelfterms.catalog import Catalog
from shelfterms.errors import (
    DuplicateShelf, InvalidBook, InvalidName, UnknownShelf, UnlikeCatalogs,
)
from shelfterms.evidence import Evidence
from support import OTHER_KINDS, Asserts, Hostile, replaced

BOUND = 10 ** 12
CATALOG = Catalog("height", "year")

NO_NAMES = (
    "", "abcdefghijklm", "A", "Top", "tOp", "top1", "1", " ", "top ", " top", "to p", "top\n",
    "?", "??", "top?", "?top", "_", "to_p", "-", "`", "{", "\u00e9", "\u0430", "%",
    0, 1, 10 ** 30, (), ("top",), ("t", "o", "p"), b"top", ["top"], *OTHER_KINDS,
)
NO_BOOKS = (
    (), (1,), (1, 2, 3), [1, 2], "12", (1, "2"), ("1", 2), (1, None), (True, 1), (1, False),
    (BOUND + 1, 0), (0, -BOUND - 1), (1.0, 2), (1, 2.0), ((1, 2),), (1, (2,)), ([1], 2), ([], []),
    {1: 2, 3: 4}, {1, 2}, 12, "top", *OTHER_KINDS,
)
ABSENT = ("", "q", "to", "topp", "TOP", "top ", "?", "height", "a b", "('top',)", "x" * 13)

# Shelves by their names, in order.
SHELVES = (
    {},
    {"top": []},
    {"top": [(1, 2)]},
    {"top": [(1, 2)], "low": []},
    {"low": [], "top": [(1, 2)]},
    {"top": [(1, 2)], "low": [(1, 2)]},
    {"top": [(1, 2), (1, 2), (3, 0)], "mid": [], "low": [(BOUND, -BOUND)]},
    {"low": [(BOUND, -BOUND)], "mid": [], "top": [(1, 2), (1, 2), (3, 0)]},
    {"top": [(1, 2), (3, 0), (1, 2)], "mid": [], "low": [(BOUND, -BOUND)]},
    {"abcdefghijkl": [(0, 0)], "a": [(0, 1)], "self": [(1, 1)], "name": [(1, 0)]},
    {"?": []},
    {"top": [(1, 2)], "?": [(3, 4), (5, 6)], "low": []},
)


class Telling(Asserts, unittest.TestCase):

    def assert_tells(self, evidence, catalog, shelves):
        """Fail unless the evidence tells that it has just these shelves."""
        self.assertIs(type(evidence), Evidence)
        self.assertIs(evidence.catalog == catalog, True)
        self.assert_same(evidence.shelf_names, tuple(shelves))
        self.assert_same(len(evidence), len(shelves))
        for name, books in shelves.items():
            self.assertIs(name in evidence, True)
            self.assertIs(name not in evidence, False)
            self.assert_same(evidence[name], tuple(books))
        for name in ABSENT:
            if name not in shelves:
                self.assertIs(name in evidence, False)
                self.assertIs(name not in evidence, True)
                self.assert_raises(UnknownShelf, {"name": name}, lambda: evidence[name])


class Shelves(Telling):

    def test_without_shelves(self):
        evidence = Evidence(CATALOG)
        self.assert_tells(evidence, CATALOG, {})
        self.assertIs(evidence.catalog, CATALOG)

    def test_shelf_by_shelf(self):
        for shelves in SHELVES:
            evidence, so_far = Evidence(CATALOG), {}
            for at, (name, books) in enumerate(shelves.items()):
                if name == "?":
                    more = evidence.with_question(books)
                elif at % 2 == 0:
                    more = evidence.with_shelf(name, *books)
                else:
                    more = evidence.with_books(name, books)
                self.assert_tells(evidence, CATALOG, so_far)
                evidence, so_far = more, {**so_far, name: books}
                self.assert_tells(evidence, CATALOG, so_far)

    def test_of(self):
        for shelves in SHELVES:
            if "?" in shelves or "self" in shelves:
                continue
            self.assert_tells(Evidence.of(CATALOG, **shelves), CATALOG, shelves)
        given = {"self": [(1, 2)], "name": [(0, 0)], "books": [], "shelves": [(1, 1)]}
        self.assert_tells(Evidence.of(CATALOG, **given), CATALOG, given)
        self.assert_tells(Evidence.of(Catalog("a"), a=[(1,)]), Catalog("a"), {"a": [(1,)]})

    def test_of_off_an_object(self):
        evidence = Evidence.of(CATALOG, top=[(1, 2)])
        self.assert_tells(evidence.of(Catalog("a"), low=[(1,)]), Catalog("a"), {"low": [(1,)]})
        self.assert_tells(evidence, CATALOG, {"top": [(1, 2)]})

    def test_several_from_one(self):
        evidence = Evidence.of(CATALOG, top=[(1, 2)])
        first = evidence.with_shelf("low", (0, 0))
        second = evidence.with_shelf("low")
        third = evidence.with_question([(5, 5)])
        fourth = evidence.without_shelf("top")
        self.assert_tells(evidence, CATALOG, {"top": [(1, 2)]})
        self.assert_tells(first, CATALOG, {"top": [(1, 2)], "low": [(0, 0)]})
        self.assert_tells(second, CATALOG, {"top": [(1, 2)], "low": []})
        self.assert_tells(third, CATALOG, {"top": [(1, 2)], "?": [(5, 5)]})
        self.assert_tells(fourth, CATALOG, {})

    def test_without_shelf(self):
        for shelves in SHELVES:
            evidence = evidence_of_two(shelves)
            for name in shelves:
                rest = {other: books for other, books in shelves.items() if other != name}
                less = evidence.without_shelf(name)
                self.assert_tells(less, CATALOG, rest)
                self.assert_tells(evidence, CATALOG, shelves)
                if name != "?":
                    again = less.with_books(name, shelves[name])
                    self.assert_tells(again, CATALOG, {**rest, name: shelves[name]})

    def test_unknown_shelves(self):
        for shelves in SHELVES:
            evidence = evidence_of_two(shelves)
            for name in ABSENT:
                if name not in shelves:
                    self.assert_raises(UnknownShelf, {"name": name}, evidence.without_shelf, name)
            self.assert_tells(evidence, CATALOG, shelves)

    def test_the_lists_stay_and_may_be_changed(self):
        for shelves in SHELVES:
            for name, books in shelves.items():
                given = list(books)
                one = Evidence(CATALOG).with_books("low", given)
                two = Evidence.of(CATALOG, low=given)
                three = Evidence(CATALOG).with_shelf("low", *given)
                four = Evidence(CATALOG).with_question(given)
                self.assert_same(given, books)
                given.append((9, 9))
                given[0] = (8, 8)
                for evidence in (one, two, three):
                    self.assert_tells(evidence, CATALOG, {"low": books})
                self.assert_tells(four, CATALOG, {"?": books})

    def test_arguments_by_name(self):
        evidence = Evidence(catalog=CATALOG).with_books(books=[(1, 2)], name="top")
        self.assert_tells(evidence, CATALOG, {"top": [(1, 2)]})
        self.assert_tells(evidence.without_shelf(name="top"), CATALOG, {})
        question = evidence.with_question(books=[(0, 0)])
        self.assert_tells(question, CATALOG, {"top": [(1, 2)], "?": [(0, 0)]})

    def test_as_many_as_the_document_names_and_some_more(self):
        catalog = Catalog.numbered(8)
        books = [tuple(range(at, at + 8)) for at in range(43)]
        for many, length in ((20, 40), (22, 43)):
            shelves = {"x" + chr(97 + at): books[:length] for at in range(many)}
            evidence = Evidence.of(catalog, **shelves)
            self.assert_tells(evidence, catalog, shelves)


def evidence_of_two(shelves):
    """Return the evidence of shelves of books with the two marks of CATALOG."""
    evidence = Evidence(CATALOG)
    for name, books in shelves.items():
        if name == "?":
            evidence = evidence.with_question(books)
        else:
            evidence = evidence.with_books(name, books)
    return evidence


class WrongShelves(Telling):

    def setUp(self):
        self.shelves = {"top": [(1, 2)], "low": []}
        self.evidence = Evidence.of(CATALOG, **self.shelves)

    def adding(self, name, books):
        """Return the ways to add a shelf, each as a function and its arguments."""
        return (
            (self.evidence.with_shelf, (name, *books)),
            (self.evidence.with_books, (name, list(books))),
        )

    def assert_adding_raises(self, error, attributes, name, books):
        for function, arguments in self.adding(name, books):
            self.assert_raises(error, attributes, function, *arguments)
        self.assert_tells(self.evidence, CATALOG, self.shelves)

    def test_invalid_names(self):
        for name in NO_NAMES:
            self.assert_adding_raises(InvalidName, {"name": name}, name, [])
            self.assert_adding_raises(InvalidName, {"name": name}, name, [(1, 2)])
            self.assert_adding_raises(InvalidName, {"name": name}, name, [None, (1, 2)])
        for function, arguments in self.adding(Hostile(), []):
            with self.assertRaises(InvalidName) as caught:
                function(*arguments)
            self.assertIs(caught.exception.name, arguments[0])

    def test_longest_and_shortest_names(self):
        for name in ("a", "z", "abcdefghijkl", "zzzzzzzzzzzz", "height"):
            self.assert_tells(
                self.evidence.with_shelf(name), CATALOG, {**self.shelves, name: []},
            )

    def test_duplicate_names(self):
        for name in ("top", "low", "".join(["t", "o", "p"])):
            for books in ([], [(1, 2)], [None], [(1,), (1, 2)]):
                self.assert_adding_raises(DuplicateShelf, {"name": name}, name, books)

    def test_invalid_books(self):
        good = ((0, 0), (BOUND, -BOUND), (0, 0), (5, 1))
        for many in range(1, 5):
            for at in range(many):
                for value in NO_BOOKS:
                    books = replaced(good[:many], at, value)
                    self.assert_adding_raises(InvalidBook, {"book": value}, "mid", books)
                    self.assert_raises(
                        InvalidBook, {"book": value}, self.evidence.with_question, list(books),
                    )
                    with self.assertRaises(InvalidBook) as caught:
                        Evidence.of(CATALOG, top=list(good), low=list(books), mid=[None])
                    self.assertIs(caught.exception.book, value)

    def test_the_first_of_two_invalid_books(self):
        for first, second in itertools.permutations(NO_BOOKS[:18], 2):
            for books in ((first, second), ((1, 1), first, (1, 1), second)):
                for function, arguments in self.adding("mid", books):
                    with self.assertRaises(InvalidBook) as caught:
                        function(*arguments)
                    self.assertIs(caught.exception.book, first)

    def test_a_book_that_cannot_be_looked_into(self):
        for book in (Hostile(), (Hostile(), 1), (1, Hostile())):
            for function, arguments in self.adding("mid", [(1, 2), book]):
                with self.assertRaises(InvalidBook) as caught:
                    function(*arguments)
                self.assertIs(caught.exception.book, book)

    def test_a_book_of_another_catalog(self):
        evidence = Evidence(Catalog("a", "b", "c"))
        self.assert_raises(InvalidBook, {"book": (1, 2)}, evidence.with_shelf, "top", (1, 2))
        self.assert_tells(
            evidence.with_shelf("top", (1, 2, 3)), Catalog("a", "b", "c"), {"top": [(1, 2, 3)]},
        )

    def assert_of_raises(self, error, attributes, shelves):
        with self.assertRaises(error) as caught:
            Evidence.of(CATALOG, **shelves)
        self.assertIs(type(caught.exception), error)
        for name, value in attributes.items():
            self.assert_same(getattr(caught.exception, name), value)

    def test_of_shelf_by_shelf(self):
        wrong = [(1, 2), (3,), (4,)]
        self.assert_of_raises(InvalidName, {"name": "Top"}, {"Top": []})
        self.assert_of_raises(InvalidName, {"name": "Top"}, {"Top": wrong})
        self.assert_of_raises(InvalidName, {"name": "?"}, {"?": []})
        self.assert_of_raises(InvalidName, {"name": ""}, {"low": [], "": [], "B": []})
        self.assert_of_raises(InvalidBook, {"book": (3,)}, {"low": wrong, "Top": []})
        self.assert_of_raises(InvalidName, {"name": "Top"}, {"Top": [], "low": wrong})
        self.assert_of_raises(InvalidBook, {"book": (3,)}, {"low": [(1, 2)], "top": wrong})


class Equality(Telling):

    def test_all_pairs(self):
        for first, second in itertools.product(SHELVES, repeat=2):
            same = list(first.items()) == list(second.items())
            self.assert_equal_both_ways(evidence_of_two(first), evidence_of_two(second), same)

    def test_itself(self):
        for shelves in SHELVES:
            evidence = evidence_of_two(shelves)
            self.assert_equal_both_ways(evidence, evidence, True)

    def test_another_way_to_the_same(self):
        one = Evidence.of(CATALOG, top=[(1, 2)], low=[(3, 4)])
        two = Evidence.of(CATALOG, mid=[], top=[(1, 2)]).without_shelf("mid")
        two = two.with_shelf("low", (3, 4)).with_question([]).without_shelf("?")
        self.assert_equal_both_ways(one, two, True)
        three = one.without_shelf("top").with_shelf("top", (1, 2))
        self.assert_equal_both_ways(one, three, False)

    def test_other_catalogs(self):
        others = (Catalog("year", "height"), Catalog("height", "years"), Catalog("height"))
        for shelves in SHELVES[:4]:
            for catalog in others:
                other = Evidence(catalog)
                for name, books in shelves.items():
                    other = other.with_books(name, [book[:len(catalog)] for book in books])
                self.assert_equal_both_ways(evidence_of_two(shelves), other, False)
        same = Evidence(Catalog("height", "year"))
        self.assert_equal_both_ways(Evidence(CATALOG), same, True)

    def test_one_change(self):
        base = {"top": [(1, 2), (3, 4)], "low": [(5, 6)]}
        changes = (
            {"tops": [(1, 2), (3, 4)], "low": [(5, 6)]},
            {"top": [(1, 2), (3, 4)], "lower": [(5, 6)]},
            {"low": [(5, 6)], "top": [(1, 2), (3, 4)]},
            {"top": [(5, 6)], "low": [(1, 2), (3, 4)]},
            {"top": [(3, 4), (1, 2)], "low": [(5, 6)]},
            {"top": [(1, 2), (3, 5)], "low": [(5, 6)]},
            {"top": [(0, 2), (3, 4)], "low": [(5, 6)]},
            {"top": [(1, 2), (3, 4)], "low": [(5, 7)]},
            {"top": [(1, 2), (3, 4), (3, 4)], "low": [(5, 6)]},
            {"top": [(1, 2), (3, 4)], "low": []},
            {"top": [(1, 2), (3, 4)]},
            {"low": [(5, 6)]},
            {"top": [(1, 2), (3, 4)], "low": [(5, 6)], "mid": []},
            {"mid": [], "top": [(1, 2), (3, 4)], "low": [(5, 6)]},
        )
        for shelves in changes:
            one, other = Evidence.of(CATALOG, **base), Evidence.of(CATALOG, **shelves)
            self.assert_equal_both_ways(one, other, False)

    def test_values_of_other_kinds(self):
        class LookAlike:
            catalog = CATALOG
            shelf_names = ()

        for shelves in SHELVES:
            evidence = evidence_of_two(shelves)
            kinds = (
                shelves, list(shelves.items()), tuple(shelves), evidence.catalog, len(shelves),
                LookAlike(), Evidence, "", (), 0, *OTHER_KINDS,
            )
            for value in kinds:
                self.assert_equal_both_ways(evidence, value, False)


class Sums(Telling):

    def test_all_pairs(self):
        for first, second in itertools.product(SHELVES, repeat=2):
            one, other = evidence_of_two(first), evidence_of_two(second)
            common = [name for name in second if name in first]
            if common:
                self.assert_raises(DuplicateShelf, {"name": common[0]}, lambda: one + other)
            else:
                self.assert_tells(one + other, CATALOG, {**first, **second})
            self.assert_tells(one, CATALOG, first)
            self.assert_tells(other, CATALOG, second)

    def test_the_first_common_name_is_that_of_the_second(self):
        one = Evidence.of(CATALOG, a=[], b=[], c=[], d=[])
        other = Evidence.of(CATALOG, e=[], d=[], f=[], b=[], a=[])
        self.assert_raises(DuplicateShelf, {"name": "d"}, lambda: one + other)
        self.assert_raises(DuplicateShelf, {"name": "a"}, lambda: other + one)

    def test_two_questions(self):
        one, other = Evidence(CATALOG).with_question([]), Evidence(CATALOG).with_question([(1, 2)])
        self.assert_raises(DuplicateShelf, {"name": "?"}, lambda: one + other)

    def test_other_catalogs(self):
        for names in (("year", "height"), ("height",), ("height", "year", "a"), ("a", "b")):
            one = Evidence.of(CATALOG, top=[])
            for other in (
                Evidence(Catalog(*names)), Evidence.of(Catalog(*names), low=[]),
                Evidence.of(Catalog(*names), top=[]), Evidence(Catalog(*names)).with_question([]),
            ):
                self.assert_raises(UnlikeCatalogs, {}, lambda: one + other)
                self.assert_raises(UnlikeCatalogs, {}, lambda: other + one)
        self.assert_raises(UnlikeCatalogs, {}, lambda: Evidence(CATALOG) + Evidence(Catalog("a")))

    def test_three_from_either_side(self):
        parts = (
            {"top": [(1, 2)], "mid": []}, {"low": [(3, 4)]}, {"a": [(5, 6)], "?": [(0, 0)]}, {},
        )
        for first, second, third in itertools.permutations(parts, 3):
            one, two, three = [evidence_of_two(part) for part in (first, second, third)]
            expected = {**first, **second, **third}
            self.assert_tells((one + two) + three, CATALOG, expected)
            self.assert_tells(one + (two + three), CATALOG, expected)
            self.assert_equal_both_ways((one + two) + three, one + (two + three), True)

    def test_a_sum_goes_on(self):
        total = Evidence.of(CATALOG, top=[(1, 2)]) + Evidence.of(CATALOG, low=[])
        self.assert_tells(
            total.with_shelf("mid", (0, 0)), CATALOG, {"top": [(1, 2)], "low": [], "mid": [(0, 0)]},
        )
        self.assert_raises(DuplicateShelf, {"name": "low"}, total.with_shelf, "low")


class Questions(Telling):

    def test_the_name(self):
        self.assert_same(Evidence.QUESTION, "?")
        self.assert_same(Evidence(CATALOG).QUESTION, "?")

    def test_with_question(self):
        for shelves in SHELVES[:10]:
            for books in ([], [(1, 2)], [(1, 2), (0, 0), (1, 2)]):
                evidence = evidence_of_two(shelves)
                question = evidence.with_question(books)
                self.assert_tells(question, CATALOG, {**shelves, "?": books})
                self.assert_tells(evidence, CATALOG, shelves)
                self.assert_tells(question.without_shelf("?"), CATALOG, shelves)
                more = question.with_shelf("zz", (7, 7))
                self.assert_tells(more, CATALOG, {**shelves, "?": books, "zz": [(7, 7)]})

    def test_a_second_one(self):
        question = Evidence.of(CATALOG, top=[]).with_question([(1, 2)])
        for books in ([], [(1, 2)], [(1,)], [None, (1, 2)]):
            self.assert_raises(DuplicateShelf, {"name": "?"}, question.with_question, books)
        self.assert_tells(question, CATALOG, {"top": [], "?": [(1, 2)]})

    def test_with_shelf_and_with_books_do_not_accept_the_name(self):
        for evidence in (Evidence(CATALOG), Evidence(CATALOG).with_question([])):
            for books in ([], [(1, 2)], [None]):
                self.assert_raises(InvalidName, {"name": "?"}, evidence.with_shelf, "?", *books)
                self.assert_raises(InvalidName, {"name": "?"}, evidence.with_books, "?", books)

    def test_after_it_was_taken_away(self):
        question = Evidence(CATALOG).with_question([(1, 2)]).without_shelf("?")
        self.assert_raises(UnknownShelf, {"name": "?"}, question.without_shelf, "?")
        self.assert_tells(question.with_question([(3, 4)]), CATALOG, {"?": [(3, 4)]})


if __name__ == "__main__":
    unittest.main()
