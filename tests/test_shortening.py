"""Points 49 to 51: is_implied, spine, shortest and scarcity, with point 37 for them."""

import itertools
import random
import unittest

from shelfterms.catalog import Catalog
from shelfterms.errors import InvalidBook, NoRule
from shelfterms.evidence import Evidence
from shelfterms.judging import judge_scarcity
from shelfterms.papers import Gate, Scarcity
from shelfterms.rules import Rule
from shelfterms.shortening import is_implied, scarcity, shortest, spine
from support import (
    NO_BOOKS, SOUND, UNSOUND, Asserts, Hostile, agree, blocks_behind, book_near, evidence_of,
    feasible_marks, full_rules, neighbours, order_by, parts_of, barrier_parts, replaced, shown,
)

THREE = Catalog("a", "b", "c")
LINE = Evidence.of(THREE, top=[(0, 5, 5), (1, 5, 0), (1, 3, 9)])
BROKEN = LINE.with_shelf("low", (0, 0, 1), (0, 0, 2), (0, 0, 1))


class ForNoRule(Asserts):

    def assert_no_rule(self, function, count, shelves, *arguments):
        with self.assertRaises(NoRule) as caught:
            function(evidence_of(count, shelves), *arguments)
        self.assertIs(type(caught.exception), NoRule)
        expected = ("Barrier", *barrier_parts([], count, shelves))
        self.assert_same(shown(caught.exception.barrier), expected)


class IsImplied(ForNoRule, unittest.TestCase):

    def test_by_hand(self):
        evidence = Evidence.of(Catalog("height", "year"), top=[(3, 1990), (1, 1995), (2, 1995)])
        self.assertIs(is_implied(evidence, [(5, 1990), (1, 1995)]), True)
        self.assertIs(is_implied(evidence, [(1, 1995), (5, 1990)]), False)
        self.assertIs(is_implied(evidence, [(5, 1990), (1, 1995), (1, 1995), (2, 1995)]), True)
        self.assertIs(is_implied(evidence, [(5, 1990), (1, 1995), (0, 1995)]), False)

    def test_no_book_and_one(self):
        for evidence in (LINE, Evidence(THREE)):
            self.assertIs(is_implied(evidence, []), True)
            self.assertIs(is_implied(evidence, [(9, 9, 9)]), True)
            self.assertIs(is_implied(evidence, [(9, 9, 9)] * 3), True)

    def test_the_shelves(self):
        for count, shelves, _ in SOUND:
            evidence = evidence_of(count, shelves)
            for books in shelves.values():
                self.assertIs(is_implied(evidence, books), True)

    def test_cases(self):
        chance = random.Random(19)
        seen = {True: 0, False: 0}
        for count, shelves, rules in SOUND:
            evidence = evidence_of(count, shelves)
            for _ in range(6):
                books = [book_near(chance, count, shelves) for _ in range(chance.randint(0, 5))]
                if chance.randrange(3):
                    rule = rules[chance.randrange(len(rules))]
                    books.sort(key=lambda book: [sign * book[mark] for mark, sign in rule])
                given = list(books)
                expected = all(
                    order_by(terms, *pair) < 1 for terms in rules for pair in zip(books, books[1:])
                )
                self.assertIs(is_implied(evidence, books), expected)
                self.assert_same(books, given)
                seen[expected] += 1
        self.assertGreater(min(seen.values()), 150)

    def test_arguments_by_name(self):
        self.assertIs(is_implied(books=[(0, 5, 5), (1, 5, 0)], evidence=LINE), True)

    def test_invalid_books(self):
        good = ((1, 1, 1), (0, 0, 0), (0, 0, 1))
        for evidence in (LINE, BROKEN):
            for value in (*NO_BOOKS, Hostile(), (1, 2, Hostile())):
                for at in range(3):
                    books = list(replaced(good, at, value))
                    for row in (books, [*books, None], [value]):
                        with self.assertRaises(InvalidBook) as caught:
                            is_implied(evidence, row)
                        self.assertIs(type(caught.exception), InvalidBook)
                        self.assertIs(caught.exception.book, value)

    def test_no_rule(self):
        for count, shelves in UNSOUND:
            for books in ([], [(0,) * count], [(0,) * count, (1,) * count]):
                self.assert_no_rule(is_implied, count, shelves, books)


class Spine(ForNoRule, unittest.TestCase):

    def expected(self, count, shelves):
        """Return the spine by its definition, with all full rules listed."""
        # For each place, the rules that put it the other way round.
        wrong = {
            (name, i, j): {
                terms for terms in full_rules(count)
                if order_by(terms, shelves[name][i], shelves[name][j]) == 1
            }
            for name, i, j in neighbours(shelves)
        }
        kept = list(wrong)
        for place in list(wrong):
            others = [other for other in kept if other != place]
            if wrong[place] <= set().union(*[wrong[other] for other in others]):
                kept = others
        return kept

    def test_by_hand(self):
        evidence = Evidence.of(Catalog("a", "b"), top=[(0, 0), (1, 0), (2, 0)], low=[
            (0, 0), (3, 0), (3, 1), (4, 0),
        ])
        # The mark b rises, and falls at the last place: so a rises and is ahead of b.
        self.assert_same(spine(evidence), [("low", 1, 2), ("low", 2, 3)])
        # Of the places that say the same, the last one stays.
        evidence = Evidence.of(Catalog("a", "b"), top=[(0, 0), (1, 0), (2, 0)], low=[(0, 0), (3, 0)])
        self.assert_same(spine(evidence), [("low", 0, 1)])
        self.assert_same(spine(Evidence(THREE)), [])
        self.assert_same(spine(Evidence.of(THREE, top=[(1, 1, 1)] * 3)), [])
        self.assert_same(spine(LINE), [("top", 0, 1), ("top", 1, 2)])

    def test_a_place_that_several_others_imply(self):
        evidence = Evidence.of(Catalog("a", "b"), p=[(0, 0), (1, 1)], q=[(0, 0), (1, 0)], r=[
            (0, 0), (0, 1),
        ])
        self.assert_same(spine(evidence), [("q", 0, 1), ("r", 0, 1)])

    def test_cases(self):
        dropped = kept = 0
        for count, shelves, _ in SOUND:
            expected = self.expected(count, shelves)
            found = spine(evidence_of(count, shelves))
            self.assertIs(type(found), list)
            self.assert_same(found, expected)
            kept += len(found)
            dropped += len(neighbours(shelves)) - len(found)
        self.assertGreater(min(kept, dropped), 200)

    def test_a_new_list(self):
        spine(LINE).clear()
        self.assert_same(spine(LINE), [("top", 0, 1), ("top", 1, 2)])
        self.assert_same(spine(evidence=LINE), [("top", 0, 1), ("top", 1, 2)])

    def test_no_rule(self):
        for count, shelves in UNSOUND:
            self.assert_no_rule(spine, count, shelves)


def rules_with(size, count):
    """Return the terms of all rules with so many terms, ordered by the ranks of the terms."""
    found = [
        tuple(zip(marks, directions))
        for marks in itertools.permutations(range(count), size)
        for directions in itertools.product((1, -1), repeat=size)
    ]
    return sorted(found, key=lambda terms: [(mark, -direction) for mark, direction in terms])


class Shortest(ForNoRule, unittest.TestCase):

    def expected(self, count, shelves):
        pairs = [(shelves[name][i], shelves[name][j]) for name, i, j in neighbours(shelves)]
        for size in range(count + 1):
            for terms in rules_with(size, count):
                if all(order_by(terms, *pair) == -1 for pair in pairs):
                    return terms
        return None

    def test_by_hand(self):
        self.assert_same(shortest(LINE).terms, ((0, 1), (1, -1)))
        evidence = Evidence.of(Catalog("height", "year"), top=[(3, 1990), (1, 1995), (2, 1995)])
        self.assert_same(shortest(evidence).terms, ((1, 1), (0, 1)))
        self.assert_same(shortest(Evidence(THREE)).terms, ())
        self.assert_same(shortest(Evidence.of(THREE, top=[(1, 1, 1)] * 3)).terms, ())

    def test_the_first_of_several(self):
        evidence = Evidence.of(THREE, top=[(0, 0, 1), (1, 1, 0)])
        self.assert_same(shortest(evidence).terms, ((0, 1),))
        evidence = Evidence.of(THREE, top=[(0, 1, 0), (0, 0, 1)])
        self.assert_same(shortest(evidence).terms, ((1, -1),))
        # Fewer terms go ahead of lower ranks: a is no use here.
        evidence = Evidence.of(THREE, top=[(0, 0, 3), (1, 0, 2), (1, 1, 1)])
        self.assert_same(shortest(evidence).terms, ((2, -1),))

    def test_cases(self):
        lengths = set()
        for count, shelves, _ in SOUND:
            evidence = evidence_of(count, shelves)
            rule = shortest(evidence)
            self.assertIs(type(rule), Rule)
            self.assert_same(rule.terms, self.expected(count, shelves))
            self.assertIs(evidence.explains(rule), True)
            lengths.add(len(rule))
        self.assertEqual(lengths, {0, 1, 2, 3, 4})

    def test_arguments_by_name(self):
        self.assert_same(shortest(evidence=LINE).terms, ((0, 1), (1, -1)))

    def test_no_rule(self):
        for count, shelves in UNSOUND:
            self.assert_no_rule(shortest, count, shelves)


class ScarcityPaper(ForNoRule, unittest.TestCase):

    def expected(self, among, count, shelves):
        """Return the parts of the gate of these marks."""
        inside = max(
            (marks for marks in feasible_marks(count, shelves) if set(marks) <= set(among)),
            key=len,
        )
        left = [
            (name, i, j) for name, i, j in neighbours(shelves)
            if agree(shelves[name][i], shelves[name][j], inside)
        ]
        blocks = blocks_behind(inside, among, (), count, shelves)
        return (inside, (), blocks, among, left[0])

    def test_by_hand(self):
        evidence = Evidence.of(Catalog("height", "year"), top=[(3, 1990), (1, 1995), (2, 1995)])
        paper = scarcity(evidence)
        self.assertIs(type(paper), Scarcity)
        self.assert_same(paper.bound, 2)
        self.assert_same([shown(gate) for gate in paper.gates], [
            ("Gate", (), (), (((0, 1), ("top", 0, 1)), ((0, -1), ("top", 1, 2))), (0,), (
                "top", 0, 1,
            )),
            ("Gate", (1,), (), (), (1,), ("top", 1, 2)),
        ])

    def test_bound_0(self):
        for evidence in (Evidence(THREE), Evidence.of(THREE, top=[(1, 1, 1)] * 3)):
            paper = scarcity(evidence)
            self.assert_same((paper.bound, paper.gates), (0, ()))

    def test_bound_1(self):
        paper = scarcity(Evidence.of(THREE, top=[(0, 0, 0), (0, 0, 0), (0, 1, 1)]))
        self.assert_same(paper.bound, 1)
        self.assert_same([shown(gate) for gate in paper.gates], [
            ("Gate", (), (), (), (), ("top", 1, 2)),
        ])

    def test_cases(self):
        for count, shelves, _ in SOUND:
            evidence = evidence_of(count, shelves)
            paper = scarcity(evidence)
            self.assertIs(type(paper), Scarcity)
            self.assert_same(paper.bound, len(shortest(evidence)))
            sets = []
            if paper.bound > 0:
                sets = list(itertools.combinations(range(count), paper.bound - 1))
            self.assertIs(type(paper.gates), tuple)
            found = []
            for gate in paper.gates:
                self.assertIs(type(gate), Gate)
                found.append((*parts_of(gate), gate.among, gate.place))
            self.assert_same(found, [self.expected(among, count, shelves) for among in sets])
            self.assertIs(judge_scarcity(evidence, paper), True)

    def test_told(self):
        evidence = Evidence.of(Catalog("height", "year"), top=[(3, 1990), (1, 1995), (2, 1995)])
        self.assert_same(scarcity(evidence).told(evidence.catalog), [
            "scarcity", "terms: 2",
            "  gate", "  inside:", "  block: height asc top 0 1", "  block: height desc top 1 2",
            "  among: height", "  open: top 0 1",
            "  gate", "  inside: year", "  among: year", "  open: top 1 2",
        ])

    def test_arguments_by_name(self):
        self.assert_same(scarcity(evidence=LINE).bound, 2)

    def test_no_rule(self):
        for count, shelves in UNSOUND:
            self.assert_no_rule(scarcity, count, shelves)


if __name__ == "__main__":
    unittest.main()
