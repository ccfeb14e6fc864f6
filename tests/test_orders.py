"""Points 38 and 39: settle, order_of and Order, with their errors (points 22, 37)."""

import itertools
import random
import unittest

from shelfterms.answers import Order, order_of, settle
from shelfterms.catalog import Catalog
from shelfterms.errors import InvalidBook, InvalidSpot, NoRule
from shelfterms.evidence import Evidence
from shelfterms.family import Family
from shelfterms.papers import Barrier
from shelfterms.rules import Rule
from support import (
    CASES, LISTED, NO_BOOKS, NO_SPOTS, SOUND, UNSOUND, Asserts, Hostile, agree, barrier_parts,
    book_near, completed, evidence_of, fitting_rules, next_open, order_by, shown, spots_of,
)

THREE = Catalog("a", "b", "c")
LINE = Evidence.of(THREE, top=[(0, 5, 5), (1, 5, 0), (1, 3, 9)])
BROKEN = LINE.with_shelf("low", (0, 0, 1), (0, 0, 2), (0, 0, 1))


def settled(count, shelves, absent=()):
    """Return what settle is to return, as `shown` shows it."""
    rules = fitting_rules(count, shelves, absent)
    if rules:
        return ("Rule", rules[0])
    return ("Barrier", *barrier_parts([], count, shelves, absent))


class Settle(Asserts, unittest.TestCase):

    def test_by_hand(self):
        self.assert_same(shown(settle(LINE)), ("Rule", ((0, 1), (1, -1), (2, 1))))
        self.assert_same(shown(settle(BROKEN)), ("Barrier", (0, 1), (), (
            ((2, 1), ("low", 1, 2)), ((2, -1), ("low", 0, 1)),
        )))
        self.assert_same(
            shown(settle(BROKEN, [("low", 1)])), ("Rule", ((0, 1), (1, -1), (2, 1))),
        )
        self.assertIs(type(settle(LINE)), Rule)
        self.assertIs(type(settle(BROKEN)), Barrier)

    def test_without_shelves(self):
        for count in range(1, 9):
            terms = tuple((mark, 1) for mark in range(count))
            rule = settle(Evidence(Catalog.numbered(count)))
            self.assert_same(shown(rule), ("Rule", terms))

    def test_the_least_rule_and_not_the_first_marks(self):
        evidence = Evidence.of(Catalog("height", "year"), top=[(3, 1990), (1, 1995), (2, 1995)])
        self.assert_same(settle(evidence).terms, ((1, 1), (0, 1)))
        evidence = Evidence.of(Catalog("a"), top=[(2,), (1,)])
        self.assert_same(settle(evidence).terms, ((0, -1),))

    def test_cases(self):
        kinds = {"Rule": 0, "Barrier": 0}
        for count, shelves, _ in LISTED:
            expected = settled(count, shelves)
            self.assert_same(shown(settle(evidence_of(count, shelves))), expected)
            kinds[expected[0]] += 1
        self.assertGreater(min(kinds.values()), 60)

    def test_cases_without_spots(self):
        for count, shelves, absent in CASES:
            evidence = evidence_of(count, shelves)
            expected = settled(count, shelves, absent)
            for spots in (absent, absent[::-1], absent + absent[:1], tuple(absent)):
                given = list(spots)
                self.assert_same(shown(settle(evidence, spots)), expected)
                self.assert_same(list(spots), given)
            self.assert_same(shown(settle(evidence, spots=absent)), expected)
            self.assert_same(shown(settle(spots=absent, evidence=evidence)), expected)

    def test_all_spots_left_out(self):
        for evidence in (LINE, BROKEN):
            spots = list(evidence.all_spots())
            self.assert_same(settle(evidence, spots).terms, ((0, 1), (1, 1), (2, 1)))

    def test_asked_again_with_another_evidence_between(self):
        expected = [settled(count, shelves) for count, shelves, _ in LISTED[:60]]
        evidences = [evidence_of(count, shelves) for count, shelves, _ in LISTED[:60]]
        for _ in range(2):
            for evidence, parts in zip(evidences, expected):
                self.assert_same(shown(settle(evidence)), parts)

    def test_each_spot_left_out(self):
        for count, shelves, _ in LISTED[:40]:
            for spot in spots_of(shelves):
                paper = settle(evidence_of(count, shelves), [spot])
                self.assert_same(shown(paper), settled(count, shelves, [spot]))

    def test_invalid_spots(self):
        for value in NO_SPOTS:
            for spots in ([value], [("top", 0), value, None], [("top", 1), ("top", 1), value]):
                given = list(spots)
                with self.assertRaises(InvalidSpot) as caught:
                    settle(LINE, spots)
                self.assertIs(caught.exception.spot, value)
                self.assertTrue(all(one is two for one, two in zip(spots, given)))

    def test_the_first_of_two_invalid_spots(self):
        for first, second in itertools.permutations(NO_SPOTS, 2):
            with self.assertRaises(InvalidSpot) as caught:
                settle(LINE, [("top", 2), first, ("top", 0), second])
            self.assertIs(caught.exception.spot, first)


class Orders(Asserts, unittest.TestCase):
    """The class alone."""

    RULE = Rule((0, 1))
    BARRIER = Barrier((), (), ())

    def test_attributes(self):
        first, second = (1, 2), (3, 4)
        order = Order(first, second, self.RULE, self.BARRIER)
        self.assertIs(order.first, first)
        self.assertIs(order.second, second)
        self.assertIs(order.before, self.RULE)
        self.assertIs(order.after, self.BARRIER)
        order = Order(before=self.BARRIER, after=self.RULE, first=first, second=second)
        self.assertIs(order.before, self.BARRIER)
        self.assertIs(order.after, self.RULE)

    def test_word(self):
        self.assert_same(Order((1,), (2,), self.RULE, self.RULE).word, "either")
        self.assert_same(Order((1,), (2,), self.RULE, self.BARRIER).word, "before")
        self.assert_same(Order((1,), (2,), self.BARRIER, self.RULE).word, "after")
        self.assert_same(Order((1,), (1,), self.RULE, self.RULE).word, "same")

    def test_the_rule_without_terms_is_a_rule(self):
        self.assert_same(Order((1,), (2,), Rule(), Rule()).word, "either")
        self.assert_same(Order((1,), (2,), Rule(), self.BARRIER).word, "before")
        self.assert_same(Order((1,), (2,), self.BARRIER, Rule()).word, "after")


def expected_before(first, second, count, shelves, rules):
    """Return what `before` is to be, from the listed rules and the words of the document."""
    bad = [
        (mark, 1 if second[mark] < first[mark] else -1)
        for mark in range(count) if first[mark] != second[mark]
    ]
    ahead = [terms for terms in rules if order_by(terms, first, second) == -1]
    if first != second and not ahead:
        return ("Barrier", *barrier_parts(bad, count, shelves))
    terms = ()
    while len(terms) < count and agree(first, second, [mark for mark, _ in terms]):
        terms = (*terms, next_open(terms, lambda term: term not in bad, count, shelves))
    return ("Rule", completed(terms, count, shelves))


class OrderOf(Asserts, unittest.TestCase):

    def assert_order(self, evidence, first, second, rules, case):
        count, shelves = case
        order = order_of(evidence, first, second)
        self.assertIs(type(order), Order)
        self.assert_same((order.first, order.second), (first, second))
        before = expected_before(first, second, count, shelves, rules)
        after = expected_before(second, first, count, shelves, rules)
        self.assert_same(shown(order.before), before)
        self.assert_same(shown(order.after), after)
        results = {order_by(terms, first, second) for terms in rules}
        words = {(0,): "same", (-1,): "before", (1,): "after", (-1, 1): "either"}
        self.assert_same(order.word, words[tuple(sorted(results))])
        return order

    def test_by_hand(self):
        evidence = Evidence.of(Catalog("height", "year"), top=[(3, 1990), (1, 1995), (2, 1995)])
        order = order_of(evidence, (5, 1990), (1, 1995))
        self.assert_same(order.word, "before")
        self.assert_same(order.before.terms, ((1, 1), (0, 1)))
        self.assert_same(shown(order.after), ("Barrier", (), ((0, -1), (1, 1)), (
            ((0, 1), ("top", 0, 1)), ((1, -1), ("top", 0, 1)),
        )))
        self.assert_same(order_of(evidence, (1, 1995), (5, 1990)).word, "after")
        self.assert_same(order_of(evidence, (1, 1), (1, 1)).word, "same")
        self.assert_same(order_of(LINE, (0, 0, 0), (1, 5, 0)).word, "either")

    def test_a_rule_where_later_marks_can_be_bad_only(self):
        # The barrier that find_barrier finds here shuts out no rule: a decides ahead of b.
        evidence = Evidence.of(Catalog("a", "b"), top=[(0, 2), (0, 1)])
        order = order_of(evidence, (0, 0), (1, 1))
        self.assertIsNotNone(Family(evidence).find_barrier([(0, -1), (1, -1)]))
        self.assert_same(shown(order.before), ("Rule", ((0, 1), (1, -1))))
        self.assert_same(shown(order.after), ("Rule", ((0, -1), (1, -1))))

    def test_the_least_rule_that_puts_the_first_ahead(self):
        evidence = Evidence(Catalog("a", "b", "c"))
        order = order_of(evidence, (0, 5, 1), (0, 3, 0))
        self.assert_same(order.before.terms, ((0, 1), (1, -1), (2, 1)))
        self.assert_same(order.after.terms, ((0, 1), (1, 1), (2, 1)))
        order = order_of(evidence, (0, 3, 1), (0, 5, 0))
        self.assert_same(order.before.terms, ((0, 1), (1, 1), (2, 1)))
        self.assert_same(order.after.terms, ((0, 1), (1, -1), (2, 1)))

    def test_cases(self):
        chance = random.Random(1)
        words = {"same": 0, "either": 0, "before": 0, "after": 0}
        for count, shelves, rules in SOUND:
            evidence = evidence_of(count, shelves)
            for _ in range(6):
                first, second = (book_near(chance, count, shelves) for _ in range(2))
                for pair in ((first, second), (second, first)):
                    order = self.assert_order(evidence, *pair, rules, (count, shelves))
                    words[order.word] += 1
        self.assertGreater(min(words.values()), 100)

    def test_equal_books(self):
        for count, shelves, rules in SOUND:
            evidence = evidence_of(count, shelves)
            for book in [(0,) * count, *[books[0] for books in shelves.values() if books]]:
                order = order_of(evidence, book, tuple(list(book)))
                self.assert_same(order.before.terms, rules[0])
                self.assert_same(order.after.terms, rules[0])
                self.assert_same(order.word, "same")

    def test_the_rules_put_the_books_so(self):
        chance = random.Random(2)
        for count, shelves, _ in SOUND[:100]:
            evidence = evidence_of(count, shelves)
            first, second = (book_near(chance, count, shelves) for _ in range(2))
            order = order_of(evidence, first, second)
            for paper, result in ((order.before, -1), (order.after, 1)):
                if isinstance(paper, Rule):
                    self.assertTrue(evidence.fits(paper))
                    expected = 0 if first == second else result
                    self.assertEqual(paper.compare(first, second), expected)
                else:
                    self.assertTrue(agree(first, second, paper.inside))

    def test_values_at_the_bounds(self):
        far = 10 ** 12
        evidence = Evidence.of(Catalog("a"), top=[(-far,), (far,)])
        self.assert_same(order_of(evidence, (1 - far,), (-far,)).word, "after")
        self.assert_same(order_of(evidence, (far - 1,), (far,)).word, "before")

    def test_arguments_by_name(self):
        order = order_of(second=(0, 0, 0), first=(1, 0, 0), evidence=LINE)
        self.assert_same((order.first, order.second), ((1, 0, 0), (0, 0, 0)))

    def test_invalid_books(self):
        for evidence in (LINE, BROKEN):
            for value in (*NO_BOOKS, Hostile(), (1, 2, Hostile())):
                for pair in ((value, (1, 2, 3)), ((1, 2, 3), value), (value, None)):
                    with self.assertRaises(InvalidBook) as caught:
                        order_of(evidence, *pair)
                    self.assertIs(type(caught.exception), InvalidBook)
                    self.assertIs(caught.exception.book, value)

    def test_the_first_of_two_invalid_books(self):
        for first, second in itertools.permutations(NO_BOOKS[:16], 2):
            with self.assertRaises(InvalidBook) as caught:
                order_of(LINE, first, second)
            self.assertIs(caught.exception.book, first)

    def test_no_rule(self):
        for count, shelves in UNSOUND:
            book = (0,) * count
            with self.assertRaises(NoRule) as caught:
                order_of(evidence_of(count, shelves), book, book)
            self.assertIs(type(caught.exception), NoRule)
            expected = ("Barrier", *barrier_parts([], count, shelves))
            self.assert_same(shown(caught.exception.barrier), expected)


if __name__ == "__main__":
    unittest.main()
