"""Point 34, and point 2 for the barriers that are found."""

import itertools
import random
import unittest

from shelfterms.catalog import Catalog
from shelfterms.errors import InvalidTerm
from shelfterms.evidence import Evidence
from shelfterms.family import Family
from shelfterms.papers import Barrier
from support import (
    CASES, NO_TERMS, Asserts, barrier_parts, evidence_of, fitting_rules, parts_of, spots_of,
    terms_of,
)

THREE = Catalog("a", "b", "c")
SHELVES = {"top": [(0, 5, 5), (1, 5, 0), (1, 3, 9)], "low": [(0, 0, 1), (0, 0, 2), (0, 0, 1)]}
LINE = evidence_of(3, {"top": SHELVES["top"]})
BROKEN = evidence_of(3, SHELVES)


class FindBarrier(Asserts, unittest.TestCase):

    def assert_found(self, family, exits, expected):
        given = list(exits)
        barrier = family.find_barrier(given)
        self.assert_same(given, list(exits))
        if expected is None:
            self.assertIs(barrier, None)
        else:
            self.assertIs(type(barrier), Barrier)
            self.assert_same(parts_of(barrier), expected)

    def test_by_hand(self):
        family = Family(LINE)
        self.assert_found(family, [], None)
        self.assert_found(family, [(2, 1), (2, -1)], ((0, 1), ((2, 1), (2, -1)), ()))
        self.assert_found(family, [(2, -1), (2, 1)], ((0, 1), ((2, 1), (2, -1)), ()))
        self.assert_found(family, [(0, 1), (1, -1)], (
            (), ((0, 1), (1, -1)), (
                ((0, -1), ("top", 0, 1)), ((1, 1), ("top", 1, 2)),
                ((2, 1), ("top", 0, 1)), ((2, -1), ("top", 1, 2)),
            ),
        ))
        self.assert_found(family, [(2, -1), (1, -1), (0, 1), (1, 1)], (
            (), ((0, 1), (1, 1), (1, -1), (2, -1)), (
                ((0, -1), ("top", 0, 1)), ((2, 1), ("top", 0, 1)),
            ),
        ))
        self.assert_found(family, [(0, 1)], None)
        self.assert_found(family, [(2, 1)], None)

    def test_without_exits(self):
        blocks = (((2, 1), ("low", 1, 2)), ((2, -1), ("low", 0, 1)))
        self.assert_found(Family(BROKEN), [], ((0, 1), (), blocks))
        barrier = Family(BROKEN).find_barrier()
        self.assert_same(parts_of(barrier), ((0, 1), (), blocks))

    def test_exits_inside_are_left_away(self):
        blocks = (((2, 1), ("low", 1, 2)), ((2, -1), ("low", 0, 1)))
        for exits in ([(0, -1)], [(1, 1)], [(1, 1), (0, -1)], [(0, -1), (1, 1)]):
            self.assert_found(Family(BROKEN), exits, ((0, 1), (), blocks))
        self.assert_found(
            Family(BROKEN), [(2, 1), (0, -1)], ((0, 1), ((2, 1),), blocks[1:]),
        )

    def test_the_first_places(self):
        shelves = {
            "top": [(0, 3), (0, 4), (1, 3), (1, 4), (1, 3)],
            "low": [(1, 0), (0, 0), (0, 1), (0, 0)],
        }
        family = Family(evidence_of(2, shelves))
        self.assert_found(family, [], ((), (), (
            ((0, 1), ("low", 0, 1)), ((0, -1), ("top", 1, 2)),
            ((1, 1), ("top", 1, 2)), ((1, -1), ("top", 0, 1)),
        )))
        family = Family(evidence_of(2, shelves), [("low", 0), ("top", 0)])
        self.assert_found(family, [], ((0,), (), (
            ((1, 1), ("top", 3, 4)), ((1, -1), ("top", 2, 3)),
        )))
        family = Family(evidence_of(2, shelves), [("low", 0), ("top", 0), ("top", 3)])
        self.assert_found(family, [], ((0,), (), (
            ((1, 1), ("low", 2, 3)), ((1, -1), ("low", 1, 2)),
        )))

    def test_a_place_over_a_book_that_is_left_out(self):
        shelves = {"top": [(1, 1), (0, 9), (0, 9), (2, 0), (1, 0)]}
        family = Family(evidence_of(2, shelves), [("top", 2), ("top", 1)])
        self.assert_found(family, [(1, -1), (1, 1)], ((), ((1, 1), (1, -1)), (
            ((0, 1), ("top", 3, 4)), ((0, -1), ("top", 0, 3)),
        )))

    def test_without_shelves(self):
        for count in range(1, 9):
            family = Family(Evidence(Catalog.numbered(count)))
            terms = terms_of(count)
            self.assert_found(family, [], None)
            self.assert_found(family, terms, ((), tuple(terms), ()))
            self.assert_found(family, terms[::-1], ((), tuple(terms), ()))
            self.assert_found(family, terms[:-1], None if count == 1 else (
                (count - 1,), tuple(terms[:-2]), (),
            ))
            self.assert_found(family, terms[::2], None)

    def test_cases_without_exits(self):
        for count, shelves, absent in CASES:
            for spots in (absent, []):
                family = Family(evidence_of(count, shelves), spots)
                expected = barrier_parts([], count, shelves, spots)
                self.assert_found(family, [], expected)
                sound = fitting_rules(count, shelves, spots) != []
                self.assertIs(family.find_barrier() is None, sound)

    def test_cases_with_exits(self):
        chance = random.Random(34)
        for count, shelves, absent in CASES:
            family = Family(evidence_of(count, shelves), absent)
            terms = terms_of(count)
            some = [exits for many in range(3) for exits in itertools.permutations(terms, many)]
            for exits in [*some, *[chance.sample(terms, len(terms)) for _ in range(5)]]:
                exits = list(exits)[:chance.randint(2, len(terms))]
                expected = barrier_parts(exits, count, shelves, absent)
                self.assert_found(family, exits, expected)

    def test_every_rule_that_fits_leaves_by_an_exit(self):
        chance = random.Random(341)
        for count, shelves, absent in CASES[:100]:
            family = Family(evidence_of(count, shelves), absent)
            fitting = fitting_rules(count, shelves, absent)
            for _ in range(6):
                exits = [term for term in terms_of(count) if chance.randrange(2)]
                barrier = family.find_barrier(exits)
                if barrier is None:
                    continue
                for terms in fitting:
                    leaving = [term for term in terms if term[0] not in barrier.inside]
                    self.assertIn(leaving[0], barrier.exits)

    def test_each_spot_left_out(self):
        for spot in spots_of(SHELVES):
            family = Family(BROKEN, [spot])
            for exits in ([], [(2, 1)], [(0, 1), (1, -1)]):
                self.assert_found(family, exits, barrier_parts(exits, 3, SHELVES, [spot]))

    def test_the_list_may_be_changed(self):
        given = [(2, 1), (2, -1)]
        family = Family(LINE)
        barrier = family.find_barrier(given)
        given[0] = (0, 1)
        given.append((1, 1))
        self.assert_same(parts_of(barrier), ((0, 1), ((2, 1), (2, -1)), ()))
        self.assertIs(family.find_barrier(), None)
        self.assertIs(family.sound, True)

    def test_arguments_by_name(self):
        barrier = Family(LINE).find_barrier(exits=[(2, 1), (2, -1)])
        self.assert_same(parts_of(barrier), ((0, 1), ((2, 1), (2, -1)), ()))


class InvalidTerms(Asserts, unittest.TestCase):

    def assert_invalid(self, exits, value):
        for evidence in (LINE, BROKEN, Evidence(THREE)):
            with self.assertRaises(InvalidTerm) as caught:
                Family(evidence).find_barrier(list(exits))
            self.assertIs(type(caught.exception), InvalidTerm)
            self.assertIs(caught.exception.term, value)

    def test_values_that_are_no_terms(self):
        good = [(2, 1), (0, -1), (2, -1)]
        for value in NO_TERMS:
            for at in range(4):
                self.assert_invalid([*good[:at], value, *good[at:]], value)

    def test_the_first_of_two(self):
        for first, second in itertools.permutations(NO_TERMS, 2):
            self.assert_invalid([(0, 1), first, second], first)

    def test_a_term_twice(self):
        for term in terms_of(3):
            again = tuple(list(term))
            rest = [other for other in terms_of(3) if other != term]
            self.assert_invalid([term, again], again)
            self.assert_invalid([*rest[:2], term, *rest[2:], again], again)
            self.assert_invalid([term, rest[0], again, None], again)
            self.assert_invalid([term, None, again], None)

    def test_the_first_that_occurs_earlier(self):
        first, second = tuple([1, 1]), tuple([0, -1])
        self.assert_invalid([(0, -1), (1, 1), first, second], first)
        self.assert_invalid([(0, -1), (1, 1), second, first], second)

    def test_both_directions_of_a_mark_are_two_terms(self):
        for exits in ([(0, -1), (0, 1)], [(0, 1), (0, -1)]):
            barrier = Family(LINE).find_barrier(exits)
            self.assert_same(barrier.inside, (1, 2))
            self.assert_same(barrier.exits, ((0, 1), (0, -1)))

    def test_marks_of_a_smaller_catalog(self):
        for count in range(1, 9):
            family = Family(Evidence(Catalog.numbered(count)))
            for direction in (1, -1):
                family.find_barrier([(count - 1, direction)])
                wrong = (count, direction)
                with self.assertRaises(InvalidTerm) as caught:
                    family.find_barrier([(0, 1), wrong])
                self.assertIs(caught.exception.term, wrong)


if __name__ == "__main__":
    unittest.main()
