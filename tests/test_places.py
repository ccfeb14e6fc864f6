"""Points 22 to 26, and point 2 for spots and places."""

import itertools
import random
import types
import unittest

from shelfterms.catalog import Catalog
from shelfterms.errors import InvalidPlace, InvalidSpot
from shelfterms.evidence import Evidence
from shelfterms.rules import Rule
from support import (
    CASES, OTHER_KINDS, Asserts, evidence_of, fitting_rules, full_rules, neighbours, order_by,
    spots_of,
)

CATALOG = Catalog("a", "b")
# Shelves of 0 to 5 books, with equal neighbours at the beginning, within and at the end.
SHELVES = {
    "none": [],
    "one": [(1, 1)],
    "same": [(2, 2), (2, 2)],
    "two": [(3, 1), (2, 5)],
    "begin": [(0, 0), (0, 0), (1, 0)],
    "finish": [(0, 0), (1, 0), (1, 0)],
    "within": [(4, 4), (5, 5), (5, 5), (5, 5), (4, 4)],
}
EVIDENCE = Evidence.of(CATALOG, **SHELVES)

NO_SPOTS = (
    ("none", 0), ("one", 1), ("one", -1), ("two", 2), ("two", -1), ("two", -2), ("within", 5),
    ("two", 10 ** 30), ("two", -10 ** 30), ("other", 0), ("", 0), ("?", 0), ("TWO", 0), ("a", 0),
    ("two ", 0), ("two", True), ("two", False), ("one", False), ("two", 1.0), ("two", 0.0),
    ("two", "0"), ("two", None), ("two", (0,)), ("two", [0]), ["two", 0], ["two"], "two", ("two",),
    (), ("two", 0, 1), (("two", 0),), (0, "two"), (None, 0), (True, 0), ((), 0), ([], 0),
    (["two"], 0), ({}, 0), (b"two", 0), (("two",), 0), {"two": 0}, 0, 1, -1, *OTHER_KINDS,
)
NO_PLACES = (
    ("two", 0, 0), ("two", 1, 1), ("two", 1, 0), ("two", 0, 2), ("two", -1, 0), ("two", -1, 1),
    ("two", -2, -1), ("two", 0, -1), ("two", 1, 2), ("two", 0, 10 ** 30), ("two", -10 ** 30, 1),
    ("within", 0, 5), ("within", 4, 5), ("within", 3, 3), ("within", 4, 3), ("none", 0, 0),
    ("none", 0, 1), ("one", 0, 0), ("one", 0, 1), ("other", 0, 1), ("", 0, 1), ("?", 0, 1),
    ("TWO", 0, 1), ("two ", 0, 1), ("two", 0, True), ("two", False, 1), ("two", False, True),
    ("begin", True, 2), ("two", 0.0, 1), ("two", 0, 1.0), ("two", "0", 1), ("two", 0, "1"),
    ("two", None, 1), ("two", 0, None), ("two", (0,), 1), ("two", 0, [1]), ("two", [], []),
    ["two", 0, 1], "two", ("two",), ("two", 0), (), ("two", 0, 1, 2), (("two", 0, 1),),
    ("two", (0, 1)), (0, 1, "two"), (None, 0, 1), (True, 0, 1), ([], 0, 1), (["two"], 0, 1),
    ({}, 0, 1), (b"two", 0, 1), (("two",), 0, 1), {"two": (0, 1)}, 0, 1, -1, *OTHER_KINDS,
)


class Spots(Asserts, unittest.TestCase):

    def test_all_spots(self):
        self.assert_same(list(EVIDENCE.all_spots()), spots_of(SHELVES))
        self.assert_same(list(Evidence(CATALOG).all_spots()), [])
        self.assert_same(list(Evidence.of(CATALOG, a=[], b=[]).all_spots()), [])
        expected = [("two", 0), ("two", 1), ("one", 0)]
        evidence = Evidence.of(CATALOG, two=SHELVES["two"], none=[], one=[(0, 0)])
        self.assert_same(list(evidence.all_spots()), expected)
        question = evidence.with_question([(0, 0), (0, 0)])
        self.assert_same(list(question.all_spots()), [*expected, ("?", 0), ("?", 1)])

    def test_both_are_generators(self):
        self.assertIsInstance(EVIDENCE.all_spots(), types.GeneratorType)
        self.assertIsInstance(EVIDENCE.places(), types.GeneratorType)
        self.assertIsInstance(EVIDENCE.places([("two", 0)]), types.GeneratorType)

    def test_several_at_a_time(self):
        first, second = EVIDENCE.all_spots(), EVIDENCE.all_spots()
        for spot in spots_of(SHELVES):
            self.assert_same((next(first), next(second)), (spot, spot))
        first, second = EVIDENCE.places(), EVIDENCE.places([("within", 0)])
        self.assert_same([next(first), next(second), next(first), next(second)], [
            ("two", 0, 1), ("two", 0, 1), ("begin", 1, 2), ("begin", 1, 2),
        ])

    def test_cases(self):
        for count, shelves, _ in CASES:
            self.assert_same(list(evidence_of(count, shelves).all_spots()), spots_of(shelves))


class Places(Asserts, unittest.TestCase):

    def test_by_hand(self):
        self.assert_same(list(EVIDENCE.places()), [
            ("two", 0, 1), ("begin", 1, 2), ("finish", 0, 1), ("within", 0, 1), ("within", 3, 4),
        ])
        self.assert_same(list(EVIDENCE.places([("begin", 1), ("within", 2)])), [
            ("two", 0, 1), ("begin", 0, 2), ("finish", 0, 1), ("within", 0, 1), ("within", 3, 4),
        ])
        spots = [("within", at) for at in (3, 1, 2)] + [("two", 1), ("finish", 0)]
        self.assert_same(list(EVIDENCE.places(spots)), [("begin", 1, 2)])
        self.assert_same(list(EVIDENCE.places([("within", 1)])), [
            ("two", 0, 1), ("begin", 1, 2), ("finish", 0, 1), ("within", 0, 2), ("within", 3, 4),
        ])

    def test_spots_by_name(self):
        self.assert_same(list(EVIDENCE.places(spots=[("two", 0)])), [
            ("begin", 1, 2), ("finish", 0, 1), ("within", 0, 1), ("within", 3, 4),
        ])

    def test_no_spot_and_all(self):
        everything = spots_of(SHELVES)
        self.assert_same(list(EVIDENCE.places([])), neighbours(SHELVES))
        self.assert_same(list(EVIDENCE.places(())), neighbours(SHELVES))
        self.assert_same(list(EVIDENCE.places(everything)), [])
        self.assert_same(list(EVIDENCE.places(everything[::-1] * 2)), [])

    def test_each_set_of_spots_of_one_shelf(self):
        for name, books in SHELVES.items():
            spots = [(name, at) for at in range(len(books))]
            for many in range(len(spots) + 1):
                for absent in itertools.combinations(spots, many):
                    expected = neighbours(SHELVES, absent)
                    self.assert_same(list(EVIDENCE.places(list(absent))), expected)
                    backwards = list(absent[::-1]) + list(absent[:1])
                    self.assert_same(list(EVIDENCE.places(backwards)), expected)

    def test_cases(self):
        for count, shelves, absent in CASES:
            evidence = evidence_of(count, shelves)
            self.assert_same(list(evidence.places()), neighbours(shelves))
            self.assert_same(list(evidence.places(absent)), neighbours(shelves, absent))

    def test_the_list_stays(self):
        spots = [("within", 2), ("two", 1), ("within", 2)]
        given = list(spots)
        found = list(EVIDENCE.places(given))
        self.assert_same(given, spots)
        given.clear()
        self.assert_same(list(EVIDENCE.places(spots)), found)
        self.assert_same(list(EVIDENCE.places()), neighbours(SHELVES))

    def test_the_list_may_be_changed_while_the_places_come(self):
        given = [("two", 0), ("two", 1)]
        coming = EVIDENCE.places(given)
        found = [next(coming)]
        given.append(("within", 0))
        given[0] = None
        self.assert_same(found + list(coming), neighbours(SHELVES, [("two", 0), ("two", 1)]))

    def assert_invalid(self, spots, expected):
        coming = EVIDENCE.places(spots)
        with self.assertRaises(InvalidSpot) as caught:
            next(coming)
        self.assertIs(type(caught.exception), InvalidSpot)
        self.assertIs(caught.exception.spot, expected)

    def test_invalid_spots(self):
        good = [("two", 1), ("within", 4), ("two", 1), ("one", 0)]
        for value in NO_SPOTS:
            for at in range(5):
                self.assert_invalid([*good[:at], value, *good[at:]], value)

    def test_the_first_of_several_invalid_spots(self):
        for first, second in itertools.permutations(NO_SPOTS, 2):
            self.assert_invalid([("two", 0), first, second], first)

    def test_calling_raises_nothing(self):
        for value in NO_SPOTS:
            EVIDENCE.places([value])

    def test_spots_without_any_place(self):
        evidence = Evidence.of(CATALOG, one=[(1, 1)], none=[])
        self.assert_same(list(evidence.places([("one", 0)])), [])
        self.assert_raises(
            InvalidSpot, {"spot": ("one", 1)}, lambda: list(evidence.places([("one", 1)])),
        )

    def test_spots_of_a_question_shelf(self):
        question = EVIDENCE.without_shelf("within").with_question([(1, 0), (2, 0), (3, 0)])
        self.assert_same(list(question.places([("?", 1)]))[-1], ("?", 0, 2))
        self.assert_raises(
            InvalidSpot, {"spot": ("?", 3)}, lambda: list(question.places([("?", 3)])),
        )


class Pairs(Asserts, unittest.TestCase):

    def test_each_two_books(self):
        for name, books in SHELVES.items():
            for i, j in itertools.combinations(range(len(books)), 2):
                place = (name, i, j)
                self.assert_same(EVIDENCE.pair(place), (books[i], books[j]))
                differences = [two - one for one, two in zip(books[i], books[j])]
                step = tuple((number > 0) - (number < 0) for number in differences)
                self.assert_same(EVIDENCE.step(place), step)

    def test_by_hand(self):
        self.assert_same(EVIDENCE.pair(("two", 0, 1)), ((3, 1), (2, 5)))
        self.assert_same(EVIDENCE.step(("two", 0, 1)), (-1, 1))
        self.assert_same(EVIDENCE.step(("within", 0, 4)), (0, 0))
        self.assert_same(EVIDENCE.step(("within", 0, 2)), (1, 1))
        self.assert_same(EVIDENCE.step(("finish", 0, 2)), (1, 0))

    def test_arguments_by_name(self):
        self.assert_same(EVIDENCE.pair(place=("two", 0, 1)), ((3, 1), (2, 5)))
        self.assert_same(EVIDENCE.step(place=("two", 0, 1)), (-1, 1))

    def test_a_question_shelf(self):
        question = EVIDENCE.with_question([(7, 7), (8, 6), (7, 7)])
        self.assert_same(question.pair(("?", 1, 2)), ((8, 6), (7, 7)))
        self.assert_same(question.step(("?", 1, 2)), (-1, 1))
        self.assert_same(question.step(("?", 0, 2)), (0, 0))
        self.assert_raises(InvalidPlace, {"place": ("?", 1, 3)}, question.pair, ("?", 1, 3))

    def test_invalid_places(self):
        for value in NO_PLACES:
            self.assert_raises(InvalidPlace, {"place": value}, EVIDENCE.pair, value)
            self.assert_raises(InvalidPlace, {"place": value}, EVIDENCE.step, value)

    def test_all_small_numbers(self):
        for name, books in SHELVES.items():
            for i, j in itertools.product(range(-7, 8), repeat=2):
                place = (name, i, j)
                if 0 <= i < j < len(books):
                    self.assert_same(EVIDENCE.pair(place), (books[i], books[j]))
                else:
                    self.assert_raises(InvalidPlace, {"place": place}, EVIDENCE.pair, place)
                    self.assert_raises(InvalidPlace, {"place": place}, EVIDENCE.step, place)


class Fitting(Asserts, unittest.TestCase):

    def assert_judged(self, count, shelves, terms):
        """Fail unless fits, explains and fault say what the definitions say."""
        evidence, rule = evidence_of(count, shelves), Rule(*terms)
        found = [
            (place, order_by(terms, shelves[place[0]][place[1]], shelves[place[0]][place[2]]))
            for place in neighbours(shelves)
        ]
        faults = [place for place, order in found if order == 1]
        self.assert_same(evidence.fault(rule), faults[0] if faults else None)
        self.assertIs(evidence.fits(rule), not faults)
        self.assertIs(evidence.explains(rule), all(order == -1 for _, order in found))

    def test_by_hand(self):
        evidence = Evidence.of(CATALOG, top=[(1, 1), (1, 1), (1, 2), (2, 0)], low=[(0, 0), (0, 5)])
        self.assertIs(evidence.fits(Rule((0, 1), (1, 1))), True)
        self.assertIs(evidence.explains(Rule((0, 1), (1, 1))), True)
        self.assertIs(evidence.fault(Rule((0, 1), (1, 1))), None)
        self.assertIs(evidence.fits(Rule((0, 1))), True)
        self.assertIs(evidence.explains(Rule((0, 1))), False)
        self.assertIs(evidence.fits(Rule()), True)
        self.assertIs(evidence.explains(Rule()), False)
        self.assertIs(evidence.fault(Rule()), None)
        self.assertIs(evidence.fits(Rule((1, 1), (0, 1))), False)
        self.assertIs(evidence.explains(Rule((1, 1), (0, 1))), False)
        self.assert_same(evidence.fault(Rule((1, 1), (0, 1))), ("top", 2, 3))
        self.assert_same(evidence.fault(Rule((0, -1), (1, 1))), ("top", 2, 3))
        self.assert_same(evidence.fault(Rule((0, 1), (1, -1))), ("top", 1, 2))
        evidence = evidence.without_shelf("top")
        self.assert_same(evidence.fault(Rule((0, 1), (1, -1))), ("low", 0, 1))

    def test_equal_books_only(self):
        for shelves in ({}, {"top": []}, {"top": [(1, 1)]}, {"top": [(1, 1)] * 3, "low": [(2, 2)]}):
            for terms in [*full_rules(2), (), ((0, 1),), ((1, -1),)]:
                evidence = evidence_of(2, shelves)
                self.assertIs(evidence.fits(Rule(*terms)), True)
                self.assertIs(evidence.explains(Rule(*terms)), True)
                self.assertIs(evidence.fault(Rule(*terms)), None)

    def test_cases(self):
        chance = random.Random(25)
        for count, shelves, _ in CASES:
            rules = full_rules(count)
            some = rules if count < 3 else chance.sample(rules, 12)
            fitting = fitting_rules(count, shelves)
            for terms in [*some, *fitting[:3], *fitting[-3:]]:
                for length in range(count + 1):
                    self.assert_judged(count, shelves, terms[:length])

    def test_a_full_rule_that_fits_explains(self):
        for count, shelves, _ in CASES:
            evidence = evidence_of(count, shelves)
            for terms in fitting_rules(count, shelves)[:20]:
                self.assertIs(evidence.fits(Rule(*terms)), True)
                self.assertIs(evidence.explains(Rule(*terms)), True)

    def test_arguments_by_name(self):
        rule = Rule((0, 1))
        self.assertIs(EVIDENCE.fits(rule=rule), False)
        self.assertIs(EVIDENCE.explains(rule=rule), False)
        self.assert_same(EVIDENCE.fault(rule=rule), ("two", 0, 1))

    def test_nothing_changes(self):
        rule = Rule((1, -1), (0, 1))
        first = (EVIDENCE.fits(rule), EVIDENCE.explains(rule), EVIDENCE.fault(rule))
        second = (EVIDENCE.fits(rule), EVIDENCE.explains(rule), EVIDENCE.fault(rule))
        self.assert_same(first, second)
        self.assert_same(rule.terms, ((1, -1), (0, 1)))
        self.assertIs(EVIDENCE == Evidence.of(CATALOG, **SHELVES), True)


if __name__ == "__main__":
    unittest.main()
