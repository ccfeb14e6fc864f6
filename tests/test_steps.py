"""Points 7 to 10, and point 2 for the steps."""

import itertools
import unittest

from shelfterms import steps
from support import Asserts, all_steps

BOUND = 10 ** 12

# By hand, so that a wrong formula cannot stand on both sides of a test.
RANKED = [
    (0, 1), (0, -1), (1, 1), (1, -1), (2, 1), (2, -1), (3, 1), (3, -1),
    (4, 1), (4, -1), (5, 1), (5, -1), (6, 1), (6, -1), (7, 1), (7, -1),
]


def book_pairs(step):
    """Return pairs of books with that step, by small and by great distances."""
    count = len(step)
    return [
        ((0,) * count, step),
        (tuple(-sign for sign in step), (0,) * count),
        (tuple(range(5, 5 + count)), tuple(at + 5 + 3 * sign for at, sign in enumerate(step))),
        (tuple(-BOUND * sign for sign in step), tuple(BOUND * sign for sign in step)),
        ((-7,) * count, tuple(-7 + sign for sign in step)),
    ]


class StepBetween(Asserts, unittest.TestCase):

    def test_examples(self):
        self.assert_same(steps.step_between((3, 1990), (1, 1995)), (-1, 1))
        self.assert_same(steps.step_between((1, 1995), (2, 1995)), (1, 0))
        self.assert_same(steps.step_between((0, 0, 0), (0, 0, 0)), (0, 0, 0))
        self.assert_same(steps.step_between((-5,), (-6,)), (-1,))
        self.assert_same(steps.step_between((-6,), (5,)), (1,))
        self.assert_same(steps.step_between((-BOUND, BOUND), (BOUND, -BOUND)), (1, -1))
        self.assert_same(steps.step_between((BOUND - 1, 1 - BOUND), (BOUND, -BOUND)), (1, -1))

    def test_all_steps(self):
        for count in range(1, 9):
            for step in all_steps(count):
                for earlier, later in book_pairs(step):
                    self.assert_same(steps.step_between(earlier, later), step)

    def test_backwards(self):
        for step in all_steps(3):
            for earlier, later in book_pairs(step):
                opposite = tuple(-sign for sign in step)
                self.assert_same(steps.step_between(later, earlier), opposite)

    def test_arguments_by_name(self):
        self.assertEqual(steps.step_between(later=(1, 1), earlier=(1, 2)), (0, -1))


class Terms(Asserts, unittest.TestCase):

    def test_all_terms(self):
        for count in range(9):
            self.assert_same(steps.all_terms(count), RANKED[:2 * count])

    def test_term_rank(self):
        for rank, term in enumerate(RANKED):
            self.assert_same(steps.term_rank(term), rank)
        for count in range(9):
            for rank, term in enumerate(steps.all_terms(count)):
                self.assert_same(steps.term_rank(term), rank)

    def test_good_and_bad_terms_by_hand(self):
        self.assert_same(steps.good_terms((-1, 1)), [(0, -1), (1, 1)])
        self.assert_same(steps.bad_terms((-1, 1)), [(0, 1), (1, -1)])
        self.assert_same(steps.good_terms((0, 0, 1)), [(2, 1)])
        self.assert_same(steps.bad_terms((0, 0, 1)), [(2, -1)])
        self.assert_same(steps.good_terms((0,)), [])
        self.assert_same(steps.bad_terms((0,)), [])

    def test_good_and_bad_terms_of_all_steps(self):
        for count in range(1, 9):
            terms = RANKED[:2 * count]
            for step in all_steps(count):
                good = [(mark, direction) for mark, direction in terms if step[mark] == direction]
                bad = [(mark, direction) for mark, direction in terms if step[mark] == -direction]
                self.assert_same(steps.good_terms(step), good)
                self.assert_same(steps.bad_terms(step), bad)

    def test_the_lists_are_new(self):
        for count in range(1, 9):
            step = (1, -1, 0, 1, -1, 0, 1, 1)[:count]
            for function, argument in (
                (steps.good_terms, step), (steps.bad_terms, step), (steps.all_terms, count),
            ):
                first = function(argument)
                expected = list(first)
                first.append("more")
                first[0] = "other"
                second = function(argument)
                self.assertIsNot(first, second)
                self.assertEqual(second, expected)

    def test_the_empty_lists_are_new(self):
        for function, argument in (
            (steps.good_terms, (0, 0)), (steps.bad_terms, (0, 0)), (steps.all_terms, 0),
        ):
            function(argument).append("more")
            self.assertEqual(function(argument), [])

    def test_arguments_by_name(self):
        self.assertEqual(steps.good_terms(step=(1,)), [(0, 1)])
        self.assertEqual(steps.bad_terms(step=(1,)), [(0, -1)])
        self.assertEqual(steps.all_terms(count=1), [(0, 1), (0, -1)])
        self.assertEqual(steps.term_rank(term=(1, -1)), 3)


def expected_verdict(terms, step):
    signs = [step[mark] * direction for mark, direction in terms]
    return [sign for sign in signs if sign != 0][0] if any(signs) else 0


class Verdict(Asserts, unittest.TestCase):

    def assert_verdict(self, terms, step, expected):
        listed = list(terms)
        self.assert_same(steps.verdict(listed, step), expected)
        self.assert_same(steps.verdict(tuple(terms), step), expected)
        self.assertEqual(listed, list(terms))

    def test_by_hand(self):
        step = (0, 1, -1)
        self.assert_verdict([(1, 1)], step, 1)
        self.assert_verdict([(1, -1)], step, -1)
        self.assert_verdict([(2, -1)], step, 1)
        self.assert_verdict([(2, 1)], step, -1)
        self.assert_verdict([(0, 1)], step, 0)
        self.assert_verdict([(0, -1)], step, 0)
        self.assert_verdict([(2, 1), (1, 1)], step, -1)
        self.assert_verdict([(1, 1), (2, 1)], step, 1)
        self.assert_verdict([(0, 1), (0, -1), (2, -1), (1, -1)], step, 1)
        self.assert_verdict([(1, -1), (1, 1)], step, -1)
        self.assert_verdict([(1, 1), (1, -1)], step, 1)

    def test_without_terms(self):
        for count in range(1, 9):
            for sign in (-1, 0, 1):
                self.assert_verdict([], (sign,) * count, 0)

    def test_all_lists_of_three_terms(self):
        for many in range(4):
            for terms in itertools.product(RANKED[:4], repeat=many):
                for step in all_steps(2):
                    self.assert_verdict(terms, step, expected_verdict(terms, step))

    def test_all_orders_of_all_terms_of_three_marks(self):
        for terms in itertools.permutations(RANKED[:6]):
            for step in ((0, 0, 1), (0, -1, 0), (1, 0, -1), (-1, -1, -1), (0, 0, 0)):
                self.assert_verdict(terms, step, expected_verdict(terms, step))

    def test_steps_of_many_zeros(self):
        for at in range(8):
            for sign in (-1, 1):
                step = tuple(sign if mark == at else 0 for mark in range(8))
                for direction in (-1, 1):
                    rising = [(mark, direction) for mark in range(8)]
                    self.assert_verdict(rising, step, sign * direction)
                    self.assert_verdict(rising[::-1], step, sign * direction)
                    others = [term for term in rising if term[0] != at]
                    self.assert_verdict(others, step, 0)
                    twice = [*others, (at, -direction), *rising]
                    self.assert_verdict(twice, step, -sign * direction)
        for terms in (RANKED, RANKED[::-1], RANKED * 3):
            self.assert_verdict(terms, (0,) * 8, 0)

    def test_arguments_by_name(self):
        self.assertEqual(steps.verdict(step=(1, 0), terms=[(1, 1), (0, -1)]), -1)


if __name__ == "__main__":
    unittest.main()
