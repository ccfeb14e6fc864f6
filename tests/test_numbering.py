"""Point 48: Numbering."""

import itertools
import math
import random
import types
import unittest

from shelfterms.catalog import Catalog
from shelfterms.errors import InvalidBook, NotFitting, OutOfRange
from shelfterms.evidence import Evidence
from shelfterms.numbering import Numbering
from shelfterms.rules import Rule
from support import (
    LISTED, NO_BOOKS, SOUND, UNSOUND, Asserts, Hostile, book_near, evidence_of, full_rules,
    order_by, replaced,
)

FAR = 10 ** 30
THREE = Catalog("a", "b", "c")
LINE = Evidence.of(THREE, top=[(0, 5, 5), (1, 5, 0), (1, 3, 9)])
BROKEN = LINE.with_shelf("low", (0, 0, 1), (0, 0, 2), (0, 0, 1))


def terms_of_all(rules):
    return [rule.terms for rule in rules]


def free(count):
    """Return the numbering of an evidence without shelves, and how many rules that has."""
    return Numbering(Evidence(Catalog.numbered(count))), math.factorial(count) * 2 ** count


class Total(Asserts, unittest.TestCase):

    def test_by_hand(self):
        self.assert_same(Numbering(LINE).total, 8)
        self.assert_same(Numbering(BROKEN).total, 0)
        self.assert_same(Numbering(Evidence(Catalog("a", "b"))).total, 8)

    def test_without_shelves(self):
        for count in range(1, 9):
            numbering, total = free(count)
            self.assert_same(numbering.total, total)

    def test_cases(self):
        for count, shelves, rules in LISTED:
            self.assert_same(Numbering(evidence_of(count, shelves)).total, len(rules))

    def test_eight_marks(self):
        # The first mark is ahead of the second, and its direction is known.
        books = [(0, 0, *[0] * 6), (1, 0, *[0] * 6), (2, 0, *[0] * 6)]
        numbering = Numbering(Evidence(Catalog.numbered(8)).with_books("top", books))
        self.assert_same(numbering.total, math.factorial(8) * 2 ** 7)
        books = [(0, 1, *[0] * 6), (1, 0, *[0] * 6), (1, 1, *[0] * 6)]
        numbering = Numbering(Evidence(Catalog.numbered(8)).with_books("top", books))
        self.assert_same(numbering.total, math.factorial(8) // 2 * 2 ** 6)


class RuleAt(Asserts, unittest.TestCase):

    def test_by_hand(self):
        numbering = Numbering(Evidence(Catalog("a", "b")))
        self.assert_same(numbering.rule_at(3).terms, ((0, -1), (1, -1)))
        self.assertIs(type(numbering.rule_at(0)), Rule)
        self.assert_same(numbering.rule_at(number=7).terms, ((1, -1), (0, -1)))

    def test_cases(self):
        for count, shelves, rules in LISTED:
            numbering = Numbering(evidence_of(count, shelves))
            for number, terms in enumerate(rules):
                self.assert_same(numbering.rule_at(number).terms, terms)

    def test_in_any_order(self):
        chance = random.Random(17)
        for count, shelves, rules in SOUND[:40]:
            numbering = Numbering(evidence_of(count, shelves))
            for number in chance.sample(range(len(rules)), min(10, len(rules))):
                self.assert_same(numbering.rule_at(number).terms, rules[number])

    def test_eight_marks(self):
        numbering, total = free(8)
        last = tuple((mark, -1) for mark in range(7, -1, -1))
        self.assert_same(numbering.rule_at(0).terms, tuple((mark, 1) for mark in range(8)))
        self.assert_same(numbering.rule_at(total - 1).terms, last)
        # A sixteenth of the rules begins with each term.
        for rank in range(16):
            rule = numbering.rule_at(total // 16 * rank)
            self.assert_same(rule.terms[0], (rank // 2, 1 - rank % 2 * 2))
            self.assert_same(numbering.number_of(rule), total // 16 * rank)

    def test_out_of_range(self):
        for evidence in (LINE, BROKEN, Evidence(THREE), Evidence(Catalog("a"))):
            numbering = Numbering(evidence)
            total = numbering.total
            for number in (-1, -2, -total, -total - 1, total, total + 1, FAR, -FAR):
                if not 0 <= number < total:
                    self.assert_raises(
                        OutOfRange, {"number": number}, numbering.rule_at, number,
                    )

    def test_out_of_range_in_the_cases(self):
        for count, shelves, rules in LISTED:
            numbering = Numbering(evidence_of(count, shelves))
            for number in (-1, len(rules)):
                self.assert_raises(OutOfRange, {"number": number}, numbering.rule_at, number)


class NumberOf(Asserts, unittest.TestCase):

    def assert_not_fitting(self, numbering, terms):
        rule = Rule(*terms)
        with self.assertRaises(NotFitting) as caught:
            numbering.number_of(rule)
        self.assertIs(type(caught.exception), NotFitting)
        self.assertIs(caught.exception.rule, rule)
        self.assertIs(rule in numbering, False)

    def test_cases(self):
        for count, shelves, rules in LISTED:
            numbering = Numbering(evidence_of(count, shelves))
            numbers = {terms: number for number, terms in enumerate(rules)}
            for terms in full_rules(count):
                if terms in numbers:
                    self.assert_same(numbering.number_of(Rule(*terms)), numbers[terms])
                    self.assertIs(Rule(*terms) in numbering, True)
                else:
                    self.assert_not_fitting(numbering, terms)

    def test_rules_that_are_not_full(self):
        for count, shelves, rules in LISTED:
            numbering = Numbering(evidence_of(count, shelves))
            self.assert_not_fitting(numbering, ())
            for terms in rules[:4]:
                for at in range(count):
                    self.assert_not_fitting(numbering, terms[:at])
                    self.assert_not_fitting(numbering, terms[:at] + terms[at + 1:])

    def test_further_marks(self):
        for count, shelves, rules in SOUND:
            numbering = Numbering(evidence_of(count, shelves))
            for terms in rules[:2]:
                for more in itertools.product(range(count, 8), (1, -1)):
                    for at in range(count + 1):
                        self.assert_not_fitting(numbering, (*terms[:at], more, *terms[at:]))
                    for at in range(count):
                        self.assert_not_fitting(numbering, replaced(terms, at, more))

    def test_no_rule_fits(self):
        numbering = Numbering(BROKEN)
        for terms in full_rules(3):
            self.assert_not_fitting(numbering, terms)

    def test_arguments_by_name(self):
        rule = Rule((0, -1), (1, -1))
        self.assert_same(Numbering(evidence=Evidence(Catalog("a", "b"))).number_of(rule=rule), 3)


class Walk(Asserts, unittest.TestCase):

    def test_each_start(self):
        for count, shelves, rules in LISTED[::3]:
            numbering = Numbering(evidence_of(count, shelves))
            self.assert_same(terms_of_all(numbering.walk()), rules)
            starts = range(len(rules) + 1) if len(rules) < 40 else (0, 1, len(rules) - 2)
            for start in (*starts, len(rules)):
                self.assert_same(terms_of_all(numbering.walk(start)), rules[start:])
            self.assert_same(terms_of_all(numbering.walk(start=0)), rules)

    def test_it_is_a_generator(self):
        numbering = Numbering(LINE)
        for walk in (numbering.walk(), numbering.walk(5), Numbering(BROKEN).walk(-7)):
            self.assertIsInstance(walk, types.GeneratorType)
        self.assertIs(type(next(numbering.walk())), Rule)

    def test_out_of_range_when_the_iteration_begins(self):
        for evidence in (LINE, BROKEN, Evidence(Catalog("a"))):
            numbering = Numbering(evidence)
            total = numbering.total
            for start in (-1, -2, total + 1, total + 2, FAR, -FAR):
                walk = numbering.walk(start)
                self.assert_raises(OutOfRange, {"number": start}, next, walk)
            self.assert_same(list(numbering.walk(total)), [])

    def test_two_walks_at_a_time(self):
        for count, shelves, rules in SOUND[:60]:
            numbering = Numbering(evidence_of(count, shelves))
            first, second = numbering.walk(), numbering.walk(len(rules) // 2)
            for number, terms in enumerate(rules):
                self.assert_same(next(first).terms, terms)
                if len(rules) // 2 + number < len(rules):
                    expected = rules[len(rules) // 2 + number]
                    self.assert_same(next(second).terms, expected)
            self.assert_same(list(first) + list(second), [])

    def test_calls_between(self):
        for count, shelves, rules in SOUND[:60]:
            numbering = Numbering(evidence_of(count, shelves))
            book, other = (0,) * count, (1,) * count
            share = numbering.share(book, other)
            found = []
            for number, rule in enumerate(numbering.walk()):
                found.append(rule.terms)
                self.assert_same(numbering.rule_at(len(rules) - 1 - number).terms, rules[~number])
                self.assert_same(numbering.number_of(rule), number)
                self.assertIs(rule in numbering, True)
                self.assertIs(Rule() in numbering, False)
                self.assert_same(numbering.share(book, other), share)
                self.assert_same(terms_of_all(numbering.walk(len(rules) - 1)), rules[-1:])
            self.assert_same(found, rules)
            self.assert_same(numbering.total, len(rules))

    def test_eight_marks(self):
        numbering, total = free(8)
        for start in (0, 1, total // 2, total - 5):
            rules = list(itertools.islice(numbering.walk(start), 5))
            self.assertEqual(len(rules), 5)
            self.assert_same([numbering.number_of(rule) for rule in rules], [
                start + more for more in range(5)
            ])
        self.assertEqual(len(list(numbering.walk(total - 3))), 3)

    def test_walking_by_the_words_of_order(self):
        numbering, total = free(4)
        self.assert_same(terms_of_all(numbering.walk()), full_rules(4))
        self.assert_same(total, 384)


class Share(Asserts, unittest.TestCase):

    def test_by_hand(self):
        numbering = Numbering(LINE)
        # These two books stand on the shelf.
        self.assert_same(numbering.share((0, 0, 0), (0, 0, 0)), 0)
        self.assert_same(numbering.share((0, 5, 5), (1, 5, 0)), 8)
        self.assert_same(numbering.share((1, 5, 0), (0, 5, 5)), 0)

    def test_without_shelves(self):
        for count in range(1, 9):
            numbering, total = free(count)
            self.assert_same(numbering.share((0,) * count, (1,) * count), total // 2)
            self.assert_same(numbering.share((0,) * count, (0,) * (count - 1) + (1,)), total // 2)
            self.assert_same(numbering.share((0,) * count, (0,) * count), 0)

    def test_cases(self):
        chance = random.Random(18)
        seen = {"none": 0, "some": 0, "all": 0}
        for count, shelves, rules in LISTED:
            numbering = Numbering(evidence_of(count, shelves))
            for _ in range(8):
                first, second = (book_near(chance, count, shelves) for _ in range(2))
                expected = len([
                    terms for terms in rules if order_by(terms, first, second) == -1
                ])
                self.assert_same(numbering.share(first, second), expected)
                other = numbering.share(second, first)
                if first != second:
                    self.assert_same(expected + other, len(rules))
                word = "all" if expected == len(rules) else "some" if expected else "none"
                seen[word] += 1
        self.assertGreater(min(seen.values()), 100)

    def test_equal_books(self):
        for count, shelves, _ in LISTED:
            numbering = Numbering(evidence_of(count, shelves))
            self.assert_same(numbering.share((2,) * count, (2,) * count), 0)

    def test_no_rule_fits(self):
        for count, shelves in UNSOUND:
            numbering = Numbering(evidence_of(count, shelves))
            self.assert_same(numbering.share((0,) * count, (1,) * count), 0)

    def test_arguments_by_name(self):
        numbering = Numbering(LINE)
        self.assert_same(numbering.share(second=(0, 5, 5), first=(1, 5, 0)), 0)

    def test_invalid_books(self):
        for evidence in (LINE, BROKEN):
            numbering = Numbering(evidence)
            for value in (*NO_BOOKS, Hostile(), (1, 2, Hostile())):
                for pair in ((value, (1, 2, 3)), ((1, 2, 3), value), (value, value)):
                    with self.assertRaises(InvalidBook) as caught:
                        numbering.share(*pair)
                    self.assertIs(type(caught.exception), InvalidBook)
                    self.assertIs(caught.exception.book, value)
        for first, second in itertools.permutations(NO_BOOKS[:16], 2):
            with self.assertRaises(InvalidBook) as caught:
                Numbering(LINE).share(first, second)
            self.assertIs(caught.exception.book, first)


if __name__ == "__main__":
    unittest.main()
