"""Points 27 to 33, and point 2 for the family."""

import itertools
import random
import types
import unittest

from shelfterms.catalog import Catalog
from shelfterms.errors import (
    InvalidBeginning, InvalidMark, InvalidRule, InvalidSpot, NoRule,
)
from shelfterms.evidence import Evidence
from shelfterms.family import Family
from shelfterms.papers import Barrier
from shelfterms.rules import Rule
from support import (
    CASES, NO_MARKS, NO_TERMS, OTHER_KINDS, Asserts, all_beginnings, evidence_of, feasible_marks,
    fitting_rules, full_rules, open_behind, replaced, spots_of,
)

THREE = Catalog("a", "b", "c")
# The mark a rises; where it stays, b falls; c rises and falls where a and b stay.
LINE = Evidence.of(THREE, top=[(0, 5, 5), (1, 5, 0), (1, 3, 9)])
BROKEN = LINE.with_shelf("low", (0, 0, 1), (0, 0, 2), (0, 0, 1))


def family_of(count, shelves, absent):
    return Family(evidence_of(count, shelves), absent)


def marks_of(terms):
    return [mark for mark, _ in terms]


class Sound(Asserts, unittest.TestCase):

    def test_by_hand(self):
        self.assertIs(Family(LINE).sound, True)
        self.assertIs(Family(BROKEN).sound, False)
        self.assertIs(Family(BROKEN, [("low", 0)]).sound, True)
        self.assertIs(Family(BROKEN, [("low", 1)]).sound, True)
        self.assertIs(Family(BROKEN, [("low", 2)]).sound, True)
        self.assertIs(Family(BROKEN, [("top", 0), ("top", 1), ("top", 2)]).sound, False)

    def test_without_shelves(self):
        for count in range(1, 9):
            self.assertIs(Family(Evidence(Catalog.numbered(count))).sound, True)

    def test_cases(self):
        found = {True: 0, False: 0}
        for count, shelves, absent in CASES:
            for spots in (absent, []):
                expected = fitting_rules(count, shelves, spots) != []
                family = family_of(count, shelves, spots)
                self.assertIs(family.sound, expected)
                self.assertIs(len(family.reach()) == count, expected)
                found[expected] += 1
        self.assertGreater(min(found.values()), 40)

    def test_each_spot_left_out(self):
        for count, shelves, _ in CASES[:60]:
            for spot in spots_of(shelves):
                expected = fitting_rules(count, shelves, [spot]) != []
                self.assertIs(family_of(count, shelves, [spot]).sound, expected)


class SpotsOfTheFamily(Asserts, unittest.TestCase):

    WRONG = (
        ("top", 3), ("top", -1), ("low", 0), ("?", 0), ("top", True), ("top", False), ["top", 0],
        ("top",), ("top", 0, 1), (["top"], 0), ("top", [0]), ("top", 0.0), "top", 0, *OTHER_KINDS,
    )

    def test_invalid_spots(self):
        for value in self.WRONG:
            for spots in ([value], [("top", 0), value], [("top", 0), ("top", 0), value, None]):
                with self.assertRaises(InvalidSpot) as caught:
                    Family(LINE, spots)
                self.assertIs(type(caught.exception), InvalidSpot)
                self.assertIs(caught.exception.spot, value)

    def test_the_first_of_two(self):
        for first, second in itertools.permutations(self.WRONG[:12], 2):
            with self.assertRaises(InvalidSpot) as caught:
                Family(LINE, [first, second])
            self.assertIs(caught.exception.spot, first)

    def test_the_list_stays_and_may_be_changed(self):
        spots = [("low", 1), ("top", 0), ("low", 1)]
        given = list(spots)
        family = Family(BROKEN, given)
        self.assert_same(given, spots)
        given[0] = ("top", 1)
        given.clear()
        expected = Family(BROKEN, spots)
        self.assertIs(family.sound, True)
        self.assert_same(family.open_terms(), expected.open_terms())
        self.assert_same(list(family.feasible_sets()), list(expected.feasible_sets()))

    def test_arguments_by_name(self):
        family = Family(spots=[("low", 1)], evidence=BROKEN)
        self.assertIs(family.sound, True)
        self.assert_same(family.open_terms(used=[0]), [(1, -1), (2, 1)])
        self.assert_same(family.reach(barred=[0]), (1, 2))
        self.assertIs(family.is_beginning(terms=[(0, 1)]), True)
        self.assertIs(family.is_feasible(marks=[0]), True)
        self.assert_same(family.least_sets(mark=0), [(0,)])
        self.assert_same(family.complete(terms=[(0, 1)]).terms, ((0, 1), (1, -1), (2, 1)))
        self.assert_same(family.ahead_of(mark=1), ())
        self.assert_same(family.directions(mark=1), (1, -1))


class OpenTerms(Asserts, unittest.TestCase):

    def test_by_hand(self):
        family = Family(LINE)
        self.assert_same(family.open_terms(), [(0, 1), (1, -1)])
        self.assert_same(family.open_terms([]), [(0, 1), (1, -1)])
        self.assert_same(family.open_terms([0]), [(1, -1), (2, 1)])
        self.assert_same(family.open_terms([1]), [(0, 1), (2, -1)])
        self.assert_same(family.open_terms([2]), [(0, 1), (0, -1), (1, 1), (1, -1)])
        self.assert_same(family.open_terms([1, 0]), [(2, 1), (2, -1)])
        self.assert_same(family.open_terms([2, 1, 0]), [])
        self.assert_same(Family(BROKEN).open_terms([1, 0]), [])

    def test_without_shelves(self):
        for count in range(1, 9):
            family = Family(Evidence(Catalog.numbered(count)))
            terms = [(mark, direction) for mark in range(count) for direction in (1, -1)]
            self.assert_same(family.open_terms(), terms)
            self.assert_same(family.open_terms([count - 1]), terms[:-2])

    def test_cases(self):
        for count, shelves, absent in CASES:
            family = family_of(count, shelves, absent)
            self.assert_same(family.open_terms(), open_behind((), count, shelves, absent))
            for many in range(count + 1):
                for used in itertools.permutations(range(count), many):
                    expected = open_behind(used, count, shelves, absent)
                    self.assert_same(family.open_terms(list(used)), expected)

    def test_eight_marks(self):
        chance = random.Random(27)
        for most in (1, 2, 6):
            shelves = {
                name: [tuple(chance.randint(0, most) for _ in range(8)) for _ in range(4)]
                for name in ("top", "low")
            }
            family = family_of(8, shelves, [])
            for many in range(9):
                for _ in range(20):
                    used = chance.sample(range(8), many)
                    self.assert_same(family.open_terms(used), open_behind(used, 8, shelves))

    def test_the_list_stays_and_the_result_is_new(self):
        family = Family(LINE)
        given = [1]
        first = family.open_terms(given)
        self.assert_same(given, [1])
        given.append(0)
        expected = list(first)
        first.clear()
        first.append("more")
        self.assert_same(family.open_terms([1]), expected)

    def test_the_evidence_does_not_change(self):
        family = Family(LINE)
        family.open_terms()
        self.assertIs(LINE == Evidence.of(THREE, top=[(0, 5, 5), (1, 5, 0), (1, 3, 9)]), True)


class InvalidMarks(Asserts, unittest.TestCase):

    def setUp(self):
        self.families = (Family(LINE), Family(BROKEN), Family(Evidence(THREE)))

    def assert_invalid(self, function, argument, value):
        with self.assertRaises(InvalidMark) as caught:
            function(argument)
        self.assertIs(type(caught.exception), InvalidMark)
        self.assertIs(caught.exception.mark, value)

    def test_lists(self):
        for family in self.families:
            for function in (family.open_terms, family.reach, family.is_feasible):
                for value in NO_MARKS:
                    for before in ([], [2], [1, 0], [0, 1, 2]):
                        self.assert_invalid(function, [*before, value], value)
                        self.assert_invalid(function, [*before, value, None, 0], value)

    def test_the_first_of_two(self):
        for first, second in itertools.permutations(NO_MARKS, 2):
            for function in (Family(LINE).open_terms, Family(LINE).reach, Family(LINE).is_feasible):
                self.assert_invalid(function, [1, first, 0, second], first)

    def test_a_mark_twice(self):
        for family in self.families:
            for function in (family.open_terms, family.reach, family.is_feasible):
                self.assert_invalid(function, [0, 0], 0)
                self.assert_invalid(function, [0, 2, 1, 2], 2)
                self.assert_invalid(function, [1, 2, 1, 2], 1)
                self.assert_invalid(function, [0, 1, 2, 0, 7], 0)
                self.assert_invalid(function, [0, 7, 0], 7)

    def test_one_mark(self):
        for family in self.families:
            for function in (family.least_sets, family.ahead_of, family.directions):
                for value in NO_MARKS:
                    self.assert_invalid(function, value, value)

    def test_marks_of_a_smaller_catalog(self):
        for count in range(1, 9):
            family = Family(Evidence(Catalog.numbered(count)))
            for function in (family.least_sets, family.ahead_of, family.directions):
                function(count - 1)
                self.assert_invalid(function, count, count)
            for function in (family.open_terms, family.reach, family.is_feasible):
                function([count - 1])
                self.assert_invalid(function, [count], count)


class Beginnings(Asserts, unittest.TestCase):

    def test_by_hand(self):
        family = Family(LINE)
        for terms in ([], [(0, 1)], [(1, -1), (2, -1)], [(0, 1), (2, 1), (1, -1)]):
            self.assertIs(family.is_beginning(terms), True)
        for terms in ([(0, -1)], [(2, 1)], [(0, 1), (1, 1)], [(1, -1), (2, 1), (0, 1)]):
            self.assertIs(family.is_beginning(terms), False)

    def test_cases(self):
        chance = random.Random(28)
        for count, shelves, absent in CASES:
            family = family_of(count, shelves, absent)
            beginnings = set(all_beginnings(count, shelves, absent))
            for terms in beginnings:
                self.assertIs(family.is_beginning(list(terms)), True)
            rules = full_rules(count)
            for terms in rules if count < 4 else chance.sample(rules, 40):
                for length in range(count + 1):
                    begins = terms[:length] in beginnings
                    self.assertIs(family.is_beginning(list(terms[:length])), begins)

    def test_full_ones_are_the_rules_that_fit(self):
        chance = random.Random(29)
        for count, shelves, _ in CASES:
            evidence = evidence_of(count, shelves)
            family = Family(evidence)
            fitting = fitting_rules(count, shelves)
            rules = full_rules(count)
            some = rules if count < 4 else [*chance.sample(rules, 40), *fitting[:10]]
            for terms in some:
                self.assertIs(family.is_beginning(list(terms)), terms in fitting)
                self.assertIs(evidence.fits(Rule(*terms)), terms in fitting)

    def test_the_list_stays(self):
        given = [(0, 1), (1, -1)]
        family = Family(LINE)
        self.assertIs(family.is_beginning(given), True)
        self.assert_same(given, [(0, 1), (1, -1)])
        given.append((1, 1))
        self.assertIs(family.is_beginning([(0, 1), (1, -1)]), True)

    def assert_invalid(self, family, values):
        for function in (family.is_beginning, family.complete):
            given = list(values)
            with self.assertRaises(InvalidRule) as caught:
                function(given)
            self.assertIs(type(caught.exception), InvalidRule)
            self.assert_identical_items(caught.exception.terms, values)

    def test_invalid_rules(self):
        good = ((0, 1), (1, -1), (2, 1))
        wrong_beginning = ((0, -1), (1, 1), (2, 1))
        for family in (Family(LINE), Family(BROKEN)):
            for value in NO_TERMS:
                for at in range(3):
                    self.assert_invalid(family, replaced(good, at, value))
                    self.assert_invalid(family, replaced(wrong_beginning, at, value))
                self.assert_invalid(family, (value,))
                self.assert_invalid(family, (value, value))
            self.assert_invalid(family, ((0, 1), (0, 1)))
            self.assert_invalid(family, ((0, 1), (1, -1), (0, -1)))
            self.assert_invalid(family, ((2, 1), (7, 1)))
            self.assert_invalid(family, tuple((mark, 1) for mark in range(8)))

    def test_marks_of_a_smaller_catalog(self):
        for count in range(1, 8):
            family = Family(Evidence(Catalog.numbered(count)))
            for direction in (1, -1):
                self.assertIs(family.is_beginning([(count - 1, direction)]), True)
                self.assert_invalid(family, ((count, direction),))
                self.assert_invalid(family, ((0, 1), (7, direction)))


class Reach(Asserts, unittest.TestCase):

    def test_by_hand(self):
        self.assert_same(Family(LINE).reach(), (0, 1, 2))
        self.assert_same(Family(LINE).reach([0]), (1, 2))
        self.assert_same(Family(LINE).reach([1]), (0, 2))
        self.assert_same(Family(LINE).reach([2]), (0, 1))
        self.assert_same(Family(LINE).reach([1, 0]), ())
        self.assert_same(Family(LINE).reach([0, 1, 2]), ())
        self.assert_same(Family(BROKEN).reach(), (0, 1))
        self.assert_same(Family(BROKEN).reach([2]), (0, 1))
        self.assert_same(Family(BROKEN).reach([0]), (1,))

    def test_without_shelves(self):
        for count in range(1, 9):
            family = Family(Evidence(Catalog.numbered(count)))
            self.assert_same(family.reach(), tuple(range(count)))
            self.assert_same(family.reach([count - 1]), tuple(range(count - 1)))
            self.assert_same(family.reach(list(range(count))), ())

    def test_cases(self):
        for count, shelves, absent in CASES:
            family = family_of(count, shelves, absent)
            feasible = feasible_marks(count, shelves, absent)
            self.assert_same(family.reach(), max(feasible, key=len))
            for many in range(count + 1):
                for barred in itertools.permutations(range(count), many):
                    without = [marks for marks in feasible if not set(marks) & set(barred)]
                    self.assert_same(family.reach(list(barred)), max(without, key=len))

    def test_the_list_stays(self):
        given = [1]
        family = Family(LINE)
        self.assert_same(family.reach(given), (0, 2))
        self.assert_same(given, [1])
        given[0] = 2
        self.assert_same(family.reach(), (0, 1, 2))


class Feasible(Asserts, unittest.TestCase):

    def test_by_hand(self):
        expected = [(), (0,), (1,), (0, 1), (0, 2), (1, 2), (0, 1, 2)]
        self.assert_same(list(Family(LINE).feasible_sets()), expected)
        self.assert_same(list(Family(BROKEN).feasible_sets()), [(), (0,), (1,), (0, 1)])
        self.assert_same(Family(LINE).least_sets(0), [(0,)])
        self.assert_same(Family(LINE).least_sets(2), [(0, 2), (1, 2)])
        self.assert_same(Family(BROKEN).least_sets(2), [])
        self.assertIs(Family(LINE).is_feasible([2]), False)
        self.assertIs(Family(LINE).is_feasible([2, 1]), True)
        self.assertIs(Family(LINE).is_feasible([]), True)

    def test_cases(self):
        for count, shelves, absent in CASES:
            family = family_of(count, shelves, absent)
            expected = feasible_marks(count, shelves, absent)
            self.assert_same(list(family.feasible_sets()), expected)
            for many in range(count + 1):
                for marks in itertools.permutations(range(count), many):
                    feasible = tuple(sorted(marks)) in expected
                    self.assertIs(family.is_feasible(list(marks)), feasible)

    def test_least_sets_of_cases(self):
        for count, shelves, absent in CASES:
            family = family_of(count, shelves, absent)
            feasible = feasible_marks(count, shelves, absent)
            for mark in range(count):
                having = [marks for marks in feasible if mark in marks]
                least = [
                    marks for marks in having
                    if not any(set(other) < set(marks) for other in having)
                ]
                self.assert_same(family.least_sets(mark), least)

    def test_least_sets_of_several_sizes(self):
        # The mark d is open behind a, or behind b and c.
        evidence = Evidence.of(
            Catalog("a", "b", "c", "d"),
            top=[(0, 0, 0, 0), (1, 1, 0, 1), (2, 1, 1, 0)],
            low=[(0, 0, 0, 1), (1, 1, 0, 0), (2, 1, 1, 1)],
        )
        self.assert_same(Family(evidence).least_sets(3), [(0, 3), (1, 2, 3)])
        self.assert_same(Family(evidence).least_sets(0), [(0,)])

    def test_without_shelves(self):
        for count in range(1, 9):
            family = Family(Evidence(Catalog.numbered(count)))
            expected = [
                marks for many in range(count + 1)
                for marks in itertools.combinations(range(count), many)
            ]
            self.assert_same(list(family.feasible_sets()), expected)
            for mark in range(count):
                self.assert_same(family.least_sets(mark), [(mark,)])

    def test_the_sets_come_one_by_one(self):
        family = Family(LINE)
        self.assertIsInstance(family.feasible_sets(), types.GeneratorType)
        first, second = family.feasible_sets(), family.feasible_sets()
        self.assert_same([next(first), next(first), next(second)], [(), (0,), ()])
        self.assert_same(len(list(first)), 5)
        self.assert_same(len(list(second)), 6)

    def test_lists_stay_and_results_are_new(self):
        family = Family(LINE)
        given = [2, 1]
        self.assertIs(family.is_feasible(given), True)
        self.assert_same(given, [2, 1])
        result = family.least_sets(2)
        result.clear()
        result.append((0, 1, 2))
        self.assert_same(family.least_sets(2), [(0, 2), (1, 2)])


class Complete(Asserts, unittest.TestCase):

    def completed(self, terms, count, shelves, absent):
        """Return the terms with the least open one behind them, again and again."""
        while len(terms) < count:
            terms = (*terms, open_behind(marks_of(terms), count, shelves, absent)[0])
        return terms

    def test_by_hand(self):
        family = Family(LINE)
        self.assertIs(type(family.complete()), Rule)
        self.assert_same(family.complete().terms, ((0, 1), (1, -1), (2, 1)))
        self.assert_same(family.complete([(1, -1)]).terms, ((1, -1), (0, 1), (2, 1)))
        self.assert_same(
            family.complete([(1, -1), (2, -1)]).terms, ((1, -1), (2, -1), (0, 1)),
        )
        self.assert_same(
            family.complete([(0, 1), (2, 1), (1, -1)]).terms, ((0, 1), (2, 1), (1, -1)),
        )

    def test_without_shelves(self):
        for count in range(1, 9):
            family = Family(Evidence(Catalog.numbered(count)))
            expected = tuple((mark, 1) for mark in range(count))
            self.assert_same(family.complete().terms, expected)
            terms = ((count - 1, -1), *expected[:-1])
            self.assert_same(family.complete([(count - 1, -1)]).terms, terms)

    def test_cases(self):
        for count, shelves, absent in CASES:
            family = family_of(count, shelves, absent)
            fitting = fitting_rules(count, shelves, absent)
            if not fitting:
                continue
            self.assert_same(family.complete().terms, fitting[0])
            for terms in all_beginnings(count, shelves, absent)[:150]:
                rule = family.complete(list(terms))
                self.assertIn(rule.terms, fitting)
                self.assert_same(rule.terms, self.completed(terms, count, shelves, absent))

    def test_the_least_rule_comes_first_among_those_that_begin_so(self):
        for count, shelves, absent in CASES[:80]:
            family = family_of(count, shelves, absent)
            fitting = fitting_rules(count, shelves, absent)
            for terms in fitting[:40]:
                for length in range(count + 1):
                    begun = [other for other in fitting if other[:length] == terms[:length]]
                    self.assert_same(family.complete(list(terms[:length])).terms, begun[0])

    def test_invalid_beginnings(self):
        family = Family(LINE)
        wrong = {
            ((0, -1),): 0, ((2, 1),): 0, ((1, 1), (0, 1)): 0, ((0, 1), (1, 1)): 1,
            ((0, 1), (2, -1)): 1, ((1, -1), (2, 1), (0, 1)): 1, ((1, -1), (0, -1), (2, 1)): 1,
            ((2, 1), (1, 1), (0, -1)): 0,
        }
        for terms, at in wrong.items():
            self.assert_raises(InvalidBeginning, {"at": at}, family.complete, list(terms))

    def test_invalid_beginnings_of_cases(self):
        chance = random.Random(32)
        for count, shelves, absent in CASES:
            family = family_of(count, shelves, absent)
            if not fitting_rules(count, shelves, absent):
                continue
            beginnings = set(all_beginnings(count, shelves, absent))
            rules = full_rules(count)
            for rule in chance.sample(rules, min(len(rules), 20)):
                for length in range(count + 1):
                    terms = rule[:length]
                    if terms not in beginnings:
                        at = min(at for at in range(length) if terms[:at + 1] not in beginnings)
                        self.assert_raises(
                            InvalidBeginning, {"at": at}, family.complete, list(terms),
                        )

    def test_no_rule(self):
        family = Family(BROKEN)
        for terms in ([], [(0, 1)], [(0, -1)], [(2, 1), (0, 1), (1, 1)]):
            with self.assertRaises(NoRule) as caught:
                family.complete(terms)
            assert_barrier_like(self, caught.exception.barrier, family.find_barrier())
        with self.assertRaises(NoRule) as caught:
            family.complete()
        assert_barrier_like(self, caught.exception.barrier, family.find_barrier())

    def test_no_rule_in_cases(self):
        for count, shelves, absent in CASES:
            if fitting_rules(count, shelves, absent):
                continue
            family = family_of(count, shelves, absent)
            barrier = family.find_barrier()
            for function, arguments in (
                (family.complete, []), (family.complete, [[(0, 1)]]), (family.complete, [[(0, -1)]]),
                (family.ahead_of, [0]), (family.directions, [count - 1]),
            ):
                with self.assertRaises(NoRule) as caught:
                    function(*arguments)
                self.assertIs(type(caught.exception), NoRule)
                assert_barrier_like(self, caught.exception.barrier, barrier)

    def test_the_list_stays(self):
        given = [(1, -1)]
        family = Family(LINE)
        rule = family.complete(given)
        self.assert_same(given, [(1, -1)])
        given.append((2, -1))
        self.assert_same(rule.terms, ((1, -1), (0, 1), (2, 1)))
        self.assert_same(family.complete([(1, -1)]).terms, ((1, -1), (0, 1), (2, 1)))


def assert_barrier_like(test, barrier, expected):
    test.assertIs(type(barrier), Barrier)
    found = (barrier.inside, barrier.exits, barrier.blocks)
    test.assert_same(found, (expected.inside, expected.exits, expected.blocks))
    test.assert_same(barrier.exits, ())


class AheadAndDirections(Asserts, unittest.TestCase):

    def test_by_hand(self):
        family = Family(LINE)
        self.assert_same([family.ahead_of(mark) for mark in range(3)], [(), (), ()])
        self.assert_same([family.directions(mark) for mark in range(3)], [(1, -1)] * 3)
        # Here a rises and b rises, so that b, which falls elsewhere, waits for a.
        family = Family(LINE.with_shelf("low", (0, 0, 0), (5, 1, 0)))
        self.assert_same([family.ahead_of(mark) for mark in range(3)], [(), (0,), (0,)])
        self.assert_same([family.directions(mark) for mark in range(3)], [(1,), (1, -1), (1, -1)])
        # Here b alone falls, and c alone rises.
        family = Family(LINE.with_shelf("low", (0, 9, 0), (0, 3, 0), (0, 3, 1)))
        self.assert_same([family.ahead_of(mark) for mark in range(3)], [(), (), (0,)])
        self.assert_same([family.directions(mark) for mark in range(3)], [(1,), (-1,), (1,)])

    def test_cases(self):
        for count, shelves, absent in CASES:
            fitting = fitting_rules(count, shelves, absent)
            if not fitting:
                continue
            family = family_of(count, shelves, absent)
            for mark in range(count):
                ahead = [
                    {other for other, _ in terms[:marks_of(terms).index(mark)]}
                    for terms in fitting
                ]
                expected = tuple(sorted(set.intersection(*ahead)))
                self.assert_same(family.ahead_of(mark), expected)
                found = {dict(terms)[mark] for terms in fitting}
                self.assert_same(family.directions(mark), tuple(sorted(found, reverse=True)))

    def test_without_shelves(self):
        for count in range(1, 9):
            family = Family(Evidence(Catalog.numbered(count)))
            for mark in range(count):
                self.assert_same(family.ahead_of(mark), ())
                self.assert_same(family.directions(mark), (1, -1))

    def test_a_chain_of_eight_marks(self):
        # Each mark but the first falls where the one before it rises, and rises alone.
        books = [tuple(1 if mark == at else 0 for mark in range(8)) for at in range(8)]
        evidence = Evidence(Catalog.numbered(8))
        for at in range(8):
            evidence = evidence.with_shelf("x" + chr(97 + at), (0,) * 8, books[at])
        for at in range(1, 8):
            evidence = evidence.with_shelf("y" + chr(97 + at), books[at], books[at - 1])
        family = Family(evidence)
        for mark in range(8):
            self.assert_same(family.ahead_of(mark), tuple(range(mark)))
            self.assert_same(family.directions(mark), (1,))
        self.assert_same(list(family.feasible_sets()), [tuple(range(many)) for many in range(9)])

    def test_errors(self):
        for evidence in (BROKEN, BROKEN.without_shelf("top")):
            family = Family(evidence)
            for function in (family.ahead_of, family.directions):
                for mark in range(3):
                    with self.assertRaises(NoRule) as caught:
                        function(mark)
                    assert_barrier_like(self, caught.exception.barrier, family.find_barrier())
                # A wrong mark is found ahead of that.
                self.assert_raises(InvalidMark, {"mark": 3}, function, 3)
                self.assert_raises(InvalidMark, {"mark": True}, function, True)


class Large(Asserts, unittest.TestCase):

    def test_twenty_shelves_of_forty_books_and_some_more(self):
        chance = random.Random(2)
        terms = [(mark, chance.choice((1, -1))) for mark in (5, 2, 7, 0, 3, 6, 1, 4)]
        rule = Rule(*terms)
        for many, length in ((20, 40), (22, 43)):
            shelves = {
                "x" + chr(97 + at): rule.arranged([
                    tuple(chance.randint(0, 2) for _ in range(8)) for _ in range(length)
                ])
                for at in range(many)
            }
            family = Family(evidence_of(8, shelves))
            self.assertIs(family.sound, True)
            self.assertIs(family.is_beginning(terms), True)
            self.assertIs(evidence_of(8, shelves).fits(family.complete()), True)
            self.assertIn(tuple(range(8)), list(family.feasible_sets()))
            backwards = {name: books[::-1] for name, books in shelves.items()}
            self.assertIs(family_of(8, backwards, []).is_beginning((-rule).terms[:1]), True)
            both = {**shelves, "back": list(backwards.values())[0]}
            self.assertIs(family_of(8, both, []).sound, False)


if __name__ == "__main__":
    unittest.main()
