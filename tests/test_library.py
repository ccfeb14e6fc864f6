"""Points 56 to 61: Library."""

import itertools
import random
import unittest

from shelfterms.answers import order_of, settle
from shelfterms.catalog import Catalog
from shelfterms.errors import (
    DuplicateShelf, InvalidBook, InvalidDeed, InvalidName, InvalidSetting, NoRule, NothingToRedo,
    NothingToUndo, OutOfRange, ShelfError, UnknownShelf,
)
from shelfterms.evidence import Evidence
from shelfterms.library import Library
from shelfterms.numbering import Numbering
from shelfterms.papers import Barrier
from support import NO_BOOKS, OTHER_KINDS, Asserts, Hostile, barrier_parts, evidence_of, parts_of

THREE = Catalog("a", "b", "c")
FAR = 10 ** 30
NO_NAMES = (
    "", "?", "A", "top ", "a1", "a_b", "abcdefghijklm", "\n", "\xe9", ("top",), 0, 1, b"top",
    Hostile(), *OTHER_KINDS,
)
# Values that are no deeds.
NO_DEEDS = (
    (), ("put",), ("insert",), ("take",), ("drop",), ("insert", "top"), ("insert", "top", 0),
    ("insert", "top", 0, (1, 1, 1), 5), ("take", "top"), ("take", "top", 0, 0), ("drop", "top", 0),
    ("run", "top"), ("undo",), ("PUT", "top"), ("put ", "top"), ("", "top"), ("p", "top"),
    ("watch", (0, 0, 0), (1, 1, 1)), ("puts", "top", (0, 0, 0)), (["put"], "top"), ([], "top"),
    (("put",), "top"), (None, "top"), (0, "top"), (True, "top"), (b"put", "top"), ({}, "top"),
    (("put", "top"),), ["put", "top"], ["drop", "top"], "put", "drop", {"put": "top"}, {"put"},
    0, 1, (Hostile(), "top"), Hostile(), *OTHER_KINDS,
)


def library_of(shelves, catalog=THREE):
    library = Library(catalog)
    for name, books in shelves.items():
        library.put(name, *books)
    return library


def shelves_of(library):
    evidence = library.evidence
    return {name: list(evidence[name]) for name in evidence.shelf_names}


class ForLibraries(Asserts):

    def assert_library(self, library, shelves, undo, redo):
        """Fail unless the library has these shelves and so many deeds to undo and redo."""
        self.assert_same(shelves_of(library), shelves)
        count = len(library.evidence.catalog)
        self.assertEqual(library.evidence, evidence_of(count, shelves))
        self.assert_same(library.rules_left, Numbering(evidence_of(count, shelves)).total)
        self.assert_same((library.undo_depth, library.redo_depth), (undo, redo))

    def all_of(self, library):
        """Return what the library tells of itself."""
        return (
            repr(shelves_of(library)), library.rules_left, library.undo_depth,
            library.redo_depth, library.strict,
        )

    def assert_refused(self, error, attributes, library, function, *arguments):
        """Fail unless the call raises just this error and nothing changes."""
        before = self.all_of(library)
        evidence = library.evidence
        with self.assertRaises(error) as caught:
            function(*arguments)
        self.assertIs(type(caught.exception), error)
        for name, value in attributes.items():
            found = getattr(caught.exception, name)
            self.assertTrue(found is value or repr(found) == repr(value), (name, found))
        self.assertEqual(self.all_of(library), before)
        self.assertEqual(library.evidence, evidence)
        return caught.exception


class Deeds(ForLibraries, unittest.TestCase):

    def setUp(self):
        self.shelves = {"top": [(0, 1, 2), (1, 1, 1)], "low": [], "mid": [(3, 3, 3)]}
        self.library = library_of(self.shelves)

    def test_a_new_library(self):
        for count in range(1, 9):
            library = Library(Catalog.numbered(count))
            self.assert_library(library, {}, 0, 0)
            self.assertIs(type(library.evidence), Evidence)
            self.assertIs(library.strict, False)
        self.assert_library(Library(catalog=THREE), {}, 0, 0)

    def test_by_hand(self):
        library = self.library
        self.assert_library(library, self.shelves, 3, 0)
        self.assertIs(library.insert("top", 1, (0, 2, 0)), None)
        self.shelves["top"] = [(0, 1, 2), (0, 2, 0), (1, 1, 1)]
        self.assert_library(library, self.shelves, 4, 0)
        self.assertIs(library.take("top", 0), None)
        self.shelves["top"] = [(0, 2, 0), (1, 1, 1)]
        self.assert_library(library, self.shelves, 5, 0)
        self.assertIs(library.drop("low"), None)
        del self.shelves["low"]
        self.assert_library(library, self.shelves, 6, 0)
        self.assertIs(library.put("low", (9, 9, 9)), None)
        self.shelves["low"] = [(9, 9, 9)]
        self.assert_library(library, self.shelves, 7, 0)
        self.assert_same(library.evidence.shelf_names, ("top", "mid", "low"))

    def test_insert_at_each_index(self):
        for name, books in self.shelves.items():
            for at in range(len(books) + 1):
                library = library_of(self.shelves)
                library.insert(name, at, (5, 6, 7))
                row = [*books[:at], (5, 6, 7), *books[at:]]
                self.assert_library(library, {**self.shelves, name: row}, 4, 0)
                self.assert_same(library.evidence.shelf_names, ("top", "low", "mid"))

    def test_take_at_each_index(self):
        for name, books in self.shelves.items():
            for at in range(len(books)):
                library = library_of(self.shelves)
                library.take(name, at)
                row = [*books[:at], *books[at + 1:]]
                self.assert_library(library, {**self.shelves, name: row}, 4, 0)
                self.assert_same(library.evidence.shelf_names, ("top", "low", "mid"))

    def test_drop_each(self):
        for name in self.shelves:
            library = library_of(self.shelves)
            library.drop(name)
            left = {other: books for other, books in self.shelves.items() if other != name}
            self.assert_library(library, left, 4, 0)

    def test_put_without_books_and_with_many(self):
        self.library.put("none")
        self.library.put("many", *[(at, 0, 0) for at in range(40)])
        self.assert_same(shelves_of(self.library)["none"], [])
        self.assertEqual(len(self.library.evidence["many"]), 40)

    def test_an_evidence_told_earlier_stays(self):
        told = self.library.evidence
        self.library.insert("top", 0, (9, 9, 9))
        self.library.drop("mid")
        self.library.put("new", (1, 1, 1))
        self.assertEqual(told, evidence_of(3, self.shelves))
        self.library.undo()
        self.library.undo()
        self.library.undo()
        self.assertEqual(self.library.evidence, told)

    def test_two_libraries(self):
        other = library_of(self.shelves)
        other.drop("top")
        self.assert_library(self.library, self.shelves, 3, 0)
        self.assertEqual(other.undo_depth, 4)

    def test_wrong_names_for_put(self):
        put = self.library.put
        for name in NO_NAMES:
            for books in ((), ((1, 1, 1),), (None,)):
                self.assert_refused(InvalidName, {"name": name}, self.library, put, name, *books)
        for name in self.shelves:
            for books in ((), ((1, 1, 1),), (None,)):
                self.assert_refused(
                    DuplicateShelf, {"name": name}, self.library, put, name, *books,
                )

    def test_wrong_books_for_put(self):
        for value in (*NO_BOOKS, Hostile(), (1, 2, Hostile())):
            for books in ((value,), ((1, 1, 1), value), (value, None), ((0, 0, 0), value, [])):
                arguments = ("new", *books)
                self.assert_refused(
                    InvalidBook, {"book": value}, self.library, self.library.put, *arguments,
                )

    def test_unknown_shelves(self):
        library = self.library
        for name in ("", "new", "TOP", "top ", "?", "to", "x" * 13):
            expected = {"name": name}
            self.assert_refused(UnknownShelf, expected, library, library.drop, name)
            for at in (0, -1, FAR):
                self.assert_refused(UnknownShelf, expected, library, library.take, name, at)
                for book in ((1, 1, 1), None):
                    self.assert_refused(
                        UnknownShelf, expected, library, library.insert, name, at, book,
                    )

    def test_out_of_range(self):
        library = self.library
        for name, books in self.shelves.items():
            many = len(books)
            for at in (-1, -2, -many - 1, many, many + 1, FAR, -FAR):
                expected = {"number": at}
                self.assert_refused(OutOfRange, expected, library, library.take, name, at)
                if at != many:
                    for book in ((1, 1, 1), None, (1, 2)):
                        self.assert_refused(
                            OutOfRange, expected, library, library.insert, name, at, book,
                        )

    def test_wrong_books_for_insert(self):
        library = self.library
        for name, books in self.shelves.items():
            for at in range(len(books) + 1):
                for value in (*NO_BOOKS, Hostile(), (1, 2, Hostile())):
                    self.assert_refused(
                        InvalidBook, {"book": value}, library, library.insert, name, at, value,
                    )

    def test_arguments_by_name(self):
        library = self.library
        library.insert(book=(7, 7, 7), at=0, name="low")
        library.take(at=1, name="top")
        library.drop(name="mid")
        self.assert_library(library, {"top": [(0, 1, 2)], "low": [(7, 7, 7)]}, 6, 0)


def random_deed(chance, shelves, count):
    """Return a deed that is good for the shelves."""
    book = tuple(chance.randint(0, 2) for _ in range(count))
    name = chance.choice(list(shelves)) if shelves else None
    word = chance.choice(("put", "insert", "insert", "take", "drop")) if name else "put"
    if word == "take" and not shelves[name]:
        word = "insert"
    if word == "put":
        names = [first + second for first in "pqrs" for second in "abcdefgh"]
        new = chance.choice([other for other in names if other not in shelves])
        books = [tuple(chance.randint(0, 2) for _ in range(count)) for _ in range(
            chance.randint(0, 3)
        )]
        return ("put", new, *books)
    if word == "insert":
        return ("insert", name, chance.randint(0, len(shelves[name])), book)
    if word == "take":
        return ("take", name, chance.randrange(len(shelves[name])))
    return ("drop", name)


def wrong_deed(chance, shelves, count):
    """Return a deed that is wrong for the shelves, with its error and the attributes."""
    book = (0,) * count
    found = [
        (("put", "NO", book), InvalidName, {"name": "NO"}),
        (("put", "nnn", book, (0,) * 9), InvalidBook, {"book": (0,) * 9}),
        (("drop", "nnn"), UnknownShelf, {"name": "nnn"}),
        (("take", "nnn", 0), UnknownShelf, {"name": "nnn"}),
        (("insert", "nnn", 0, book), UnknownShelf, {"name": "nnn"}),
    ]
    for name, books in shelves.items():
        found += [
            (("put", name), DuplicateShelf, {"name": name}),
            (("take", name, len(books)), OutOfRange, {"number": len(books)}),
            (("take", name, -1), OutOfRange, {"number": -1}),
            (("insert", name, len(books) + 1, book), OutOfRange, {"number": len(books) + 1}),
            (("insert", name, 0, None), InvalidBook, {"book": None}),
        ]
    return chance.choice(found)


def after(shelves, deed):
    """Return the shelves after the deed, as plain lists."""
    word, name, *values = deed
    shelves = {other: list(books) for other, books in shelves.items()}
    if word == "put":
        shelves[name] = values
    elif word == "insert":
        shelves[name].insert(values[0], values[1])
    elif word == "take":
        del shelves[name][values[0]]
    else:
        del shelves[name]
    return shelves


def do(library, deed):
    """Do the deed by the method of its name."""
    return getattr(library, deed[0])(*deed[1:])


class ManyDeeds(ForLibraries, unittest.TestCase):

    def test_random_deeds(self):
        for seed in range(30):
            chance = random.Random(seed)
            count = chance.randint(1, 3)
            library = Library(Catalog.numbered(count))
            # All shelves since the beginning, and which of them are the present ones.
            states, at = [{}], 0
            for _ in range(40):
                kind = chance.randrange(10)
                if kind == 0 and at > 0:
                    self.assertIs(library.undo(), None)
                    at -= 1
                elif kind == 1 and at < len(states) - 1:
                    self.assertIs(library.redo(), None)
                    at += 1
                elif kind == 2:
                    deed, error, attributes = wrong_deed(chance, states[at], count)
                    self.assert_refused(error, attributes, library, do, library, deed)
                elif kind == 3:
                    deeds, shelves = self.random_run(chance, states[at], count)
                    self.assertIs(library.run(*deeds), None)
                    states, at = [*states[:at + 1], shelves], at + 1
                else:
                    deed = random_deed(chance, states[at], count)
                    self.assertIs(do(library, deed), None)
                    states, at = [*states[:at + 1], after(states[at], deed)], at + 1
                self.assert_library(library, states[at], at, len(states) - 1 - at)

    def random_run(self, chance, shelves, count):
        deeds = []
        for _ in range(chance.randint(1, 4)):
            deeds.append(random_deed(chance, shelves, count))
            shelves = after(shelves, deeds[-1])
        return deeds, shelves

    def test_undo_and_redo_many_in_a_row(self):
        for seed in range(10):
            chance = random.Random(seed)
            library = Library(THREE)
            states = [{}]
            for _ in range(12):
                deeds, shelves = self.random_run(chance, states[-1], 3)
                if chance.randrange(2):
                    library.run(*deeds)
                else:
                    deeds = deeds[:1]
                    do(library, deeds[0])
                    shelves = after(states[-1], deeds[0])
                states.append(shelves)
            for _ in range(2):
                for at in range(11, -1, -1):
                    library.undo()
                    self.assert_library(library, states[at], at, 12 - at)
                self.assert_refused(NothingToUndo, {}, library, library.undo)
                for at in range(1, 13):
                    library.redo()
                    self.assert_library(library, states[at], at, 12 - at)
                self.assert_refused(NothingToRedo, {}, library, library.redo)

    def test_a_new_deed_discards_what_could_be_redone(self):
        for deed in (("put", "new"), ("insert", "top", 0, (0, 0, 0)), ("take", "top", 0), (
            "drop", "top",
        )):
            for as_run in (False, True):
                library = library_of({"top": [(1, 1, 1)], "low": [], "mid": []})
                library.undo()
                library.undo()
                self.assertEqual((library.undo_depth, library.redo_depth), (1, 2))
                if as_run:
                    library.run(deed)
                else:
                    do(library, deed)
                self.assertEqual((library.undo_depth, library.redo_depth), (2, 0))
                self.assert_refused(NothingToRedo, {}, library, library.redo)
                library.undo()
                self.assert_library(library, {"top": [(1, 1, 1)]}, 1, 1)

    def test_what_is_no_deed_discards_nothing(self):
        library = library_of({"top": [(1, 1, 1)], "low": []})
        library.undo()
        library.run()
        library.probe(("put", "x"))
        library.probe()
        library.watch((0, 0, 0), (1, 1, 1))
        library.news()
        library.strict = True
        library.set_strict(False)
        for function, arguments in (
            (library.put, ("top",)), (library.run, (("drop", "no"),)), (library.run, ((),)),
            (library.take, ("top", 1)), (library.watch, ((), ())), (library.set_strict, (1,)),
        ):
            with self.assertRaises(ShelfError):
                function(*arguments)
        self.assertEqual((library.undo_depth, library.redo_depth), (1, 1))
        library.redo()
        self.assert_library(library, {"top": [(1, 1, 1)], "low": []}, 2, 0)

    def test_nothing_to_undo_or_redo(self):
        library = Library(THREE)
        self.assert_refused(NothingToUndo, {}, library, library.undo)
        self.assert_refused(NothingToRedo, {}, library, library.redo)
        library.put("top")
        self.assert_refused(NothingToRedo, {}, library, library.redo)
        library.undo()
        self.assert_refused(NothingToUndo, {}, library, library.undo)
        library.redo()
        self.assert_refused(NothingToRedo, {}, library, library.redo)


class Runs(ForLibraries, unittest.TestCase):

    def test_deeds_that_build_on_one_another(self):
        library = Library(THREE)
        self.assertIs(library.run(
            ("put", "top", (0, 0, 0)), ("insert", "top", 1, (1, 0, 0)), ("put", "low"),
            ("insert", "low", 0, (5, 5, 5)), ("take", "top", 0), ("drop", "low"), ("put", "low"),
        ), None)
        self.assert_library(library, {"top": [(1, 0, 0)], "low": []}, 1, 0)
        library.undo()
        self.assert_library(library, {}, 0, 1)
        library.redo()
        self.assert_library(library, {"top": [(1, 0, 0)], "low": []}, 1, 0)

    def test_a_wrong_deed_anywhere(self):
        for seed in range(150):
            chance = random.Random(seed)
            start = {"top": [(0, 1), (1, 0)], "low": []}
            library = library_of(start, Catalog("a", "b"))
            library.undo()
            library.redo()
            shelves, deeds, error, attributes = start, [], None, None
            wrong = chance.randrange(5)
            for at in range(5):
                if at == wrong:
                    deed, error, attributes = wrong_deed(chance, shelves, 2)
                    deeds.append(deed)
                elif at > wrong:
                    # A second wrong one does not matter any more.
                    deeds.append(wrong_deed(chance, shelves, 2)[0])
                else:
                    deeds.append(random_deed(chance, shelves, 2))
                    shelves = after(shelves, deeds[-1])
            for function in (library.run, library.probe):
                self.assert_refused(error, attributes, library, function, *deeds)

    def test_without_deeds(self):
        library = library_of({"top": [(0, 0, 0)]})
        self.assertIs(library.run(), None)
        self.assert_library(library, {"top": [(0, 0, 0)]}, 1, 0)
        library.undo()
        library.run()
        self.assert_library(library, {}, 0, 1)

    def test_invalid_deeds(self):
        library = library_of({"top": [(0, 0, 0)], "low": []})
        good = (("drop", "low"), ("put", "mid"), ("take", "top", 0))
        for function in (library.run, library.probe):
            for value in NO_DEEDS:
                for at in range(4):
                    deeds = (*good[:at], value, *good[at:])
                    self.assert_refused(InvalidDeed, {"index": at}, library, function, *deeds)
                    self.assert_refused(
                        InvalidDeed, {"index": at}, library, function, *deeds, None, (),
                    )

    def test_invalid_deeds_come_ahead_of_all_else(self):
        library = library_of({"top": [(0, 0, 0)]})
        wrong = (
            ("put", "top"), ("put", None), ("put", "x", None), ("drop", "no"), ("take", "top", 1),
            ("insert", "top", 0, None), ("insert", "no", 0, (0, 0, 0)),
        )
        for function in (library.run, library.probe):
            for deed in wrong:
                for value in (None, (), ("take", "top"), [("put", "x")]):
                    self.assert_refused(
                        InvalidDeed, {"index": 1}, library, function, deed, value,
                    )
            library.set_strict(True)
            broken = ("put", "bad", (0, 0, 0), (1, 0, 0), (0, 0, 0))
            self.assert_refused(InvalidDeed, {"index": 1}, library, function, broken, ())
            library.set_strict(False)

    def test_put_with_any_number_of_books(self):
        library = Library(THREE)
        library.run(("put", "none"), ("put", "one", (1, 1, 1)), (
            "put", "many", *[(at, 0, 0) for at in range(40)],
        ))
        self.assertEqual(len(library.evidence["many"]), 40)
        self.assert_same(library.evidence["none"], ())

    def test_wrong_values_behind_put(self):
        library = library_of({"top": [(0, 0, 0)]})
        for function in (library.run, library.probe):
            for name in NO_NAMES:
                self.assert_refused(
                    InvalidName, {"name": name}, library, function, ("put", name, None),
                )
            for value in (*NO_BOOKS, Hostile()):
                for deed in (("put", "x", (0, 0, 0), value), ("insert", "top", 1, value)):
                    self.assert_refused(InvalidBook, {"book": value}, library, function, deed)

    def test_the_tuples_stay(self):
        library = Library(THREE)
        deeds = [("put", "top", (0, 0, 0)), ("insert", "top", 0, (1, 1, 1)), ("take", "top", 1)]
        given = list(deeds)
        library.probe(*deeds)
        library.run(*deeds)
        self.assert_same(deeds, given)


class Probes(ForLibraries, unittest.TestCase):

    def test_random_deeds(self):
        for seed in range(60):
            chance = random.Random(seed)
            count = chance.randint(1, 3)
            start = {"top": [(0,) * count, (1,) * count], "low": []}
            library = library_of(start, Catalog.numbered(count))
            library.undo()
            library.redo()
            shelves, deeds = start, []
            for _ in range(5):
                before = self.all_of(library)
                expected = Numbering(evidence_of(count, shelves)).total
                self.assert_same(library.probe(*deeds), expected)
                self.assertEqual(self.all_of(library), before)
                deeds.append(random_deed(chance, shelves, count))
                shelves = after(shelves, deeds[-1])

    def test_never_no_rule(self):
        library = library_of({"top": [(0, 0, 0)]})
        broken = (("insert", "top", 1, (1, 0, 0)), ("insert", "top", 2, (0, 0, 0)))
        for strict in (False, True):
            library.strict = strict
            self.assert_same(library.probe(*broken), 0)
            self.assert_same(library.probe(), 48)
            self.assert_same(library.probe(*broken, ("drop", "top")), 48)
        self.assert_library(library, {"top": [(0, 0, 0)]}, 1, 0)
        library.strict = False
        library.run(*broken)
        self.assert_same(library.probe(), 0)
        self.assert_same(library.probe(("take", "top", 1)), 48)


class Strict(ForLibraries, unittest.TestCase):

    GOOD = {"top": [(0, 0, 0), (1, 0, 0)]}
    BAD = ("put", "bad", (0, 0, 0), (1, 0, 0), (0, 0, 0))

    def assert_no_rule(self, library, shelves, function, *arguments):
        """Fail unless the call raises NoRule with the barrier of settle for these shelves."""
        error = self.assert_refused(NoRule, {}, library, function, *arguments)
        self.assertIs(type(error.barrier), Barrier)
        count = len(library.evidence.catalog)
        self.assert_same(parts_of(error.barrier), barrier_parts([], count, shelves))
        self.assert_same(parts_of(error.barrier), parts_of(settle(evidence_of(count, shelves))))

    def assign(self, library, value):
        library.strict = value

    def test_assigning(self):
        library = library_of(self.GOOD)
        self.assertIs(library.strict, False)
        for change in (self.assign, Library.set_strict):
            change(library, True)
            self.assertIs(library.strict, True)
            change(library, True)
            self.assertIs(library.strict, True)
            change(library, False)
            self.assertIs(library.strict, False)
            change(library, False)
            self.assertIs(library.strict, False)
        self.assertIs(library.set_strict(value=True), None)
        self.assert_library(library, self.GOOD, 1, 0)

    def test_invalid_settings(self):
        values = [value for value in OTHER_KINDS if value is not True and value is not False]
        for shelves in (self.GOOD, {"bad": self.BAD[2:]}):
            library = library_of(shelves)
            for value in (*values, 0, 1, -1, 2, "", "True", "no", (), (True,), [True], Hostile()):
                for change in (self.assign, Library.set_strict):
                    self.assert_refused(
                        InvalidSetting, {"value": value}, library, change, library, value,
                    )
        library = library_of(self.GOOD)
        library.strict = True
        for value in (0, 1, None, Hostile()):
            for change in (self.assign, Library.set_strict):
                self.assert_refused(
                    InvalidSetting, {"value": value}, library, change, library, value,
                )

    def test_assigning_in_an_evidence_that_is_not_sound(self):
        library = library_of({**self.GOOD, "bad": list(self.BAD[2:])})
        for change in (self.assign, Library.set_strict):
            shelves = {**self.GOOD, "bad": list(self.BAD[2:])}
            self.assert_no_rule(library, shelves, change, library, True)
            change(library, False)
            self.assertIs(library.strict, False)

    def test_each_deed(self):
        library = library_of({"top": [(0, 0, 0), (1, 0, 0)], "low": [(0, 0, 0)]})
        library.strict = True
        for deed in (
            self.BAD, ("insert", "top", 2, (0, 0, 0)), ("insert", "top", 0, (1, 0, 0)),
        ):
            shelves = after(shelves_of(library), deed)
            self.assert_no_rule(library, shelves, do, library, deed)
            self.assert_no_rule(library, shelves, library.run, deed)
        library.take("top", 0)
        library.drop("low")
        library.put("low", (5, 0, 0), (4, 0, 0))
        self.assert_library(library, {"top": [(1, 0, 0)], "low": [(5, 0, 0), (4, 0, 0)]}, 5, 0)
        library.strict = False
        do(library, self.BAD)
        self.assert_same(library.rules_left, 0)

    def test_only_the_end_of_a_run_counts(self):
        library = library_of(self.GOOD)
        library.strict = True
        library.run(self.BAD, ("take", "bad", 2))
        self.assert_same(library.undo_depth, 2)
        library.run(self.BAD[:1] + ("worse",) + self.BAD[2:], ("drop", "worse"))
        self.assert_same(library.undo_depth, 3)
        shelves = {**shelves_of(library), "worse": list(self.BAD[2:])}
        deeds = (("put", "mid"), ("put", "worse", *self.BAD[2:]), ("drop", "mid"))
        self.assert_no_rule(library, shelves, library.run, *deeds)

    def test_undo_and_redo(self):
        library = library_of(self.GOOD)
        do(library, self.BAD)
        library.drop("bad")
        library.strict = True
        shelves = {**self.GOOD, "bad": list(self.BAD[2:])}
        self.assert_no_rule(library, shelves, library.undo)
        self.assertEqual((library.undo_depth, library.redo_depth), (3, 0))
        library.strict = False
        library.undo()
        library.undo()
        library.strict = True
        self.assert_no_rule(library, shelves, library.redo)
        self.assertEqual((library.undo_depth, library.redo_depth), (1, 2))
        library.strict = False
        library.redo()
        library.redo()
        self.assert_library(library, self.GOOD, 3, 0)

    def test_good_deeds_go_on(self):
        library = Library(THREE)
        library.strict = True
        library.put("top", (0, 0, 0), (1, 0, 0))
        library.insert("top", 1, (0, 0, 0))
        library.undo()
        library.redo()
        library.run()
        self.assertIs(library.strict, True)
        self.assert_library(library, {"top": [(0, 0, 0), (0, 0, 0), (1, 0, 0)]}, 2, 0)

    def test_other_errors_come_first(self):
        library = library_of(self.GOOD)
        library.strict = True
        bad = self.BAD[2:]
        for error, deeds in (
            (DuplicateShelf, [("put", "top", *bad)]), (InvalidName, [("put", "?", *bad)]),
            (InvalidBook, [("put", "bad", *bad, None)]), (UnknownShelf, [self.BAD, ("drop", "x")]),
            (OutOfRange, [self.BAD, ("take", "bad", 3)]), (InvalidDeed, [self.BAD, None]),
            (InvalidBook, [self.BAD, ("insert", "bad", 0, 5)]), (DuplicateShelf, [self.BAD] * 2),
        ):
            self.assert_refused(error, {}, library, library.run, *deeds)
            if len(deeds) == 1:
                self.assert_refused(error, {}, library, do, library, deeds[0])
        library.undo()
        self.assert_refused(NothingToUndo, {}, library, library.undo)
        library.redo()
        self.assert_refused(NothingToRedo, {}, library, library.redo)

    def test_assigning_is_no_deed(self):
        library = library_of(self.GOOD)
        library.strict = True
        self.assert_same(library.undo_depth, 1)
        library.undo()
        # So undo does not take it back either.
        self.assertIs(library.strict, True)
        library.strict = False
        self.assert_same((library.undo_depth, library.redo_depth), (0, 1))


class Watches(ForLibraries, unittest.TestCase):

    def test_numbers(self):
        library = Library(THREE)
        for number in range(5):
            self.assert_same(library.watch((0, 0, 0), (1, number, 1)), number)
        library.put("top")
        library.undo()
        self.assert_same(library.watch(second=(0, 0, 0), first=(0, 0, 0)), 5)
        self.assert_same(Library(THREE).watch((0, 0, 0), (0, 0, 0)), 0)

    def test_invalid_books(self):
        library = library_of({"top": [(0, 0, 0), (1, 0, 0)]})
        library.watch((0, 0, 0), (1, 1, 1))
        for value in (*NO_BOOKS, Hostile(), (1, 2, Hostile())):
            for pair in ((value, (0, 0, 0)), ((0, 0, 0), value), (value, None)):
                self.assert_refused(InvalidBook, {"book": value}, library, library.watch, *pair)
        for first, second in itertools.permutations(NO_BOOKS[:16], 2):
            expected = {"book": first}
            self.assert_refused(InvalidBook, expected, library, library.watch, first, second)
        self.assert_same(library.watch((0, 0, 0), (1, 1, 1)), 1)

    def test_states_by_hand(self):
        library = Library(THREE)
        library.watch((0, 0, 0), (1, 0, 0))
        library.watch((1, 0, 0), (0, 0, 0))
        library.watch((5, 5, 5), (5, 5, 5))
        library.watch((0, 0, 0), (0, 1, 0))
        self.assert_same(library.news(), [])
        library.put("top", (3, 0, 0), (4, 0, 0))
        self.assert_same(library.news(), [(0, "either", "before"), (1, "either", "after")])
        self.assert_same(library.news(), [])
        library.put("low", (4, 0, 0), (3, 0, 0))
        self.assert_same(library.news(), [
            (0, "before", "none"), (1, "after", "none"), (2, "same", "none"), (3, "either", "none"),
        ])
        library.drop("top")
        self.assert_same(library.news(), [
            (0, "none", "after"), (1, "none", "before"), (2, "none", "same"), (3, "none", "either"),
        ])
        library.undo()
        library.undo()
        self.assert_same(library.news(), [
            (0, "after", "before"), (1, "before", "after"),
        ])

    def test_changed_back_is_no_news(self):
        library = Library(THREE)
        library.watch((0, 0, 0), (1, 0, 0))
        library.put("top", (3, 0, 0), (4, 0, 0))
        library.undo()
        self.assert_same(library.news(), [])
        library.redo()
        self.assert_same(library.news(), [(0, "either", "before")])

    def test_a_watch_that_begins_later(self):
        library = library_of({"top": [(3, 0, 0), (4, 0, 0)]})
        library.watch((0, 0, 0), (1, 0, 0))
        library.drop("top")
        library.watch((0, 0, 0), (1, 0, 0))
        self.assert_same(library.news(), [(0, "before", "either")])
        library.undo()
        library.watch((0, 0, 0), (1, 0, 0))
        self.assert_same(library.news(), [(0, "either", "before"), (1, "either", "before")])

    def test_refused_deeds_and_probes(self):
        library = library_of({"top": [(3, 0, 0), (4, 0, 0)]})
        library.strict = True
        library.watch((0, 0, 0), (1, 0, 0))
        library.probe(("drop", "top"))
        library.probe(("put", "low", (4, 0, 0), (3, 0, 0)))
        for deed in (("drop", "no"), ("put", "low", (4, 0, 0), (3, 0, 0)), ("take", "top", 2)):
            with self.assertRaises(ShelfError):
                do(library, deed)
            with self.assertRaises(ShelfError):
                library.run(("drop", "top"), deed, ("undo",))
        self.assert_same(library.news(), [])

    def test_a_watch_in_an_evidence_that_is_not_sound(self):
        library = library_of({"bad": [(0, 0, 0), (1, 0, 0), (0, 0, 0)]})
        library.watch((0, 0, 0), (1, 0, 0))
        self.assert_same(library.news(), [])
        library.take("bad", 2)
        self.assert_same(library.news(), [(0, "none", "before")])

    def test_watching_is_no_deed(self):
        library = library_of({"top": [(3, 0, 0), (4, 0, 0)], "low": []})
        library.undo()
        library.watch((0, 0, 0), (1, 0, 0))
        library.news()
        self.assert_same((library.undo_depth, library.redo_depth), (1, 1))
        # And undo does not end a watch.
        library.undo()
        self.assert_same(library.news(), [(0, "before", "either")])

    def test_the_told_list_may_be_changed(self):
        library = Library(THREE)
        library.watch((0, 0, 0), (1, 0, 0))
        told = library.news()
        told.append((0, "either", "before"))
        library.put("top", (3, 0, 0), (4, 0, 0))
        found = library.news()
        self.assert_same(found, [(0, "either", "before")])
        found.clear()
        self.assert_same(library.news(), [])
        library.undo()
        self.assert_same(library.news(), [(0, "before", "either")])

    def test_random_deeds(self):
        words = set()
        for seed in range(40):
            chance = random.Random(seed)
            library = Library(Catalog("a", "b"))
            pairs, states, shelves = [], [], [{}]
            for _ in range(25):
                kind = chance.randrange(8)
                if kind == 0 or not pairs:
                    pair = [tuple(chance.randint(0, 1) for _ in range(2)) for _ in range(2)]
                    self.assert_same(library.watch(*pair), len(pairs))
                    pairs.append(pair)
                    states.append(self.state(library, pair))
                elif kind == 1 and len(shelves) > 1:
                    library.undo()
                    shelves.pop()
                elif kind == 2:
                    now = [self.state(library, pair) for pair in pairs]
                    expected = [
                        (number, old, new) for number, (old, new) in enumerate(zip(states, now))
                        if old != new
                    ]
                    self.assert_same(library.news(), expected)
                    self.assert_same(library.news(), [])
                    words.update((old, new) for _, old, new in expected)
                    states = now
                else:
                    deed = random_deed(chance, shelves[-1], 2)
                    do(library, deed)
                    shelves.append(after(shelves[-1], deed))
        self.assertGreater(len(words), 9)

    def state(self, library, pair):
        if settle(library.evidence).__class__ is Barrier:
            return "none"
        return order_of(library.evidence, *pair).word


if __name__ == "__main__":
    unittest.main()
