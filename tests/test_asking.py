"""Points 54 and 55: outcomes, worst, best, plan and its trees, with point 37 for them."""

import itertools
import random
import unittest

from shelfterms.asking import Fork, Leaf, Plan, best, outcomes, plan, worst
from shelfterms.catalog import Catalog
from shelfterms.errors import InvalidBook, NoRule
from shelfterms.evidence import Evidence
from shelfterms.numbering import Numbering
from shelfterms.rules import Rule
from support import (
    NO_BOOKS, SOUND, UNSOUND, Asserts, Hostile, barrier_parts, book_near, evidence_of,
    fitting_rules, order_by, replaced, shown,
)

THREE = Catalog("a", "b", "c")
LINE = Evidence.of(THREE, top=[(0, 5, 5), (1, 5, 0), (1, 3, 9)])
BROKEN = LINE.with_shelf("low", (0, 0, 1), (0, 0, 2), (0, 0, 1))


def arranged(books, terms):
    """Return the arrangement of the books by a full rule."""
    keys = [[direction * book[mark] for mark, direction in terms] for book in books]
    return tuple(sorted(range(len(books)), key=lambda at: (keys[at], at)))


def listed_outcomes(books, rules):
    found = [arranged(books, terms) for terms in rules]
    return [(arrangement, found.count(arrangement)) for arrangement in sorted(set(found))]


def some_books(chance, count, shelves, most=5):
    """Return a list of up to `most` books, some of them equal."""
    books = [book_near(chance, count, shelves) for _ in range(chance.randint(0, most))]
    if len(books) > 1 and chance.randrange(2):
        books[chance.randrange(len(books))] = chance.choice(books)
    return books


class ForErrors(Asserts):

    def assert_invalid_book(self, value, function, *arguments):
        with self.assertRaises(InvalidBook) as caught:
            function(*arguments)
        self.assertIs(type(caught.exception), InvalidBook)
        self.assertIs(caught.exception.book, value)

    def assert_invalid_books_in_a_list(self, function):
        good = ((1, 1, 1), (0, 0, 0), (0, 0, 1))
        for evidence in (LINE, BROKEN):
            for value in (*NO_BOOKS, Hostile(), (1, 2, Hostile())):
                self.assert_invalid_book(value, function, evidence, [value])
                for at in range(3):
                    books = list(replaced(good, at, value))
                    self.assert_invalid_book(value, function, evidence, books)
                    self.assert_invalid_book(value, function, evidence, [*books, None])
        for first, second in itertools.permutations(NO_BOOKS[:16], 2):
            self.assert_invalid_book(first, function, LINE, [(0, 0, 0), first, second])

    def assert_no_rule(self, function, count, shelves, *arguments):
        with self.assertRaises(NoRule) as caught:
            function(evidence_of(count, shelves), *arguments)
        self.assertIs(type(caught.exception), NoRule)
        expected = ("Barrier", *barrier_parts([], count, shelves))
        self.assert_same(shown(caught.exception.barrier), expected)


class Outcomes(ForErrors, unittest.TestCase):

    def test_by_hand(self):
        evidence = Evidence(Catalog("a"))
        self.assert_same(outcomes(evidence, [(2,), (1,)]), [((0, 1), 1), ((1, 0), 1)])
        evidence = Evidence(Catalog("a", "b"))
        self.assert_same(outcomes(evidence, []), [((), 8)])
        self.assert_same(outcomes(evidence, [(1, 1)]), [((0,), 8)])
        self.assert_same(outcomes(evidence, [(1, 1), (1, 1)]), [((0, 1), 8)])
        self.assert_same(outcomes(evidence, [(1, 1), (0, 0), (1, 1)]), [
            ((0, 2, 1), 4), ((1, 0, 2), 4),
        ])
        self.assert_same(outcomes(evidence, [(0, 0), (0, 1), (1, 0)]), [
            ((0, 1, 2), 1), ((0, 2, 1), 1), ((1, 0, 2), 2), ((1, 2, 0), 1), ((2, 0, 1), 2),
            ((2, 1, 0), 1),
        ])

    def test_cases(self):
        chance = random.Random(20)
        lengths = set()
        for count, shelves, rules in SOUND:
            evidence = evidence_of(count, shelves)
            for _ in range(6):
                books = some_books(chance, count, shelves)
                given = list(books)
                found = outcomes(evidence, books)
                self.assert_same(books, given)
                self.assert_same(found, listed_outcomes(books, rules))
                self.assertEqual(sum(many for _, many in found), len(rules))
                lengths.add(len(found))
        self.assertGreater(len(lengths), 10)

    def test_equal_books(self):
        chance = random.Random(21)
        for count, shelves, rules in SOUND[:80]:
            evidence = evidence_of(count, shelves)
            pair = [book_near(chance, count, shelves) for _ in range(2)]
            for books in itertools.product(pair, repeat=4):
                books = list(books)
                self.assert_same(outcomes(evidence, books), listed_outcomes(books, rules))

    def test_without_books(self):
        for count, shelves, rules in SOUND:
            self.assert_same(outcomes(evidence_of(count, shelves), []), [((), len(rules))])

    def test_many_marks(self):
        chance = random.Random(22)
        for count in range(4, 9):
            evidence = Evidence(Catalog.numbered(count))
            total = Numbering(evidence).total
            for most in (1, 2, 9):
                books = [tuple(chance.randint(0, most) for _ in range(count)) for _ in range(5)]
                found = outcomes(evidence, books)
                self.assertEqual(sum(many for _, many in found), total)
                self.assertEqual(found, sorted(found))
                # Each arrangement comes as often backwards, by the opposite rules.
                counts = dict(found)
                if len(set(books)) == 5:
                    for arrangement, many in found:
                        self.assertEqual(counts[arrangement[::-1]], many)
                for first, second in itertools.combinations(range(5), 2):
                    ahead = sum(
                        many for arrangement, many in found
                        if arrangement.index(first) < arrangement.index(second)
                    )
                    if books[first] != books[second]:
                        share = Numbering(evidence).share(books[first], books[second])
                        self.assertEqual(ahead, share)

    def test_four_and_five_marks_against_the_listed_rules(self):
        chance = random.Random(23)
        for count in (4, 5):
            shelves = {"top": [(0,) * count, (1,) * count], "low": [(0, 1) + (0,) * (count - 2)]}
            rules = fitting_rules(count, shelves)
            evidence = evidence_of(count, shelves)
            for _ in range(4):
                books = [tuple(chance.randint(0, 1) for _ in range(count)) for _ in range(5)]
                self.assert_same(outcomes(evidence, books), listed_outcomes(books, rules))

    def test_marks_that_split_one_book_at_a_time(self):
        books = [tuple(int(at == mark) for mark in range(8)) for at in range(5)]
        found = outcomes(Evidence(Catalog.numbered(8)), books)
        self.assertEqual(len(found), 120)
        self.assertEqual(sum(many for _, many in found), Numbering(
            Evidence(Catalog.numbered(8))
        ).total)

    def test_a_new_list(self):
        outcomes(LINE, [(0, 0, 0)]).clear()
        self.assert_same(outcomes(books=[(0, 0, 0)], evidence=LINE), [((0,), 8)])

    def test_invalid_books(self):
        self.assert_invalid_books_in_a_list(outcomes)

    def test_no_rule(self):
        for count, shelves in UNSOUND:
            for books in ([], [(0,) * count], [(0,) * count, (1,) * count]):
                self.assert_no_rule(outcomes, count, shelves, books)


class Worst(ForErrors, unittest.TestCase):

    def test_cases(self):
        chance = random.Random(24)
        for count, shelves, rules in SOUND:
            evidence = evidence_of(count, shelves)
            for _ in range(4):
                books = some_books(chance, count, shelves)
                expected = max(many for _, many in listed_outcomes(books, rules))
                self.assert_same(worst(evidence, books), expected)

    def test_by_hand(self):
        evidence = Evidence(Catalog("a", "b"))
        self.assert_same(worst(evidence, []), 8)
        self.assert_same(worst(evidence, [(0, 0), (1, 1)]), 4)
        self.assert_same(worst(books=[(0, 0), (1, 1), (0, 1)], evidence=evidence), 2)

    def test_invalid_books(self):
        self.assert_invalid_books_in_a_list(worst)

    def test_no_rule(self):
        for count, shelves in UNSOUND:
            for books in ([], [(0,) * count, (1,) * count]):
                self.assert_no_rule(worst, count, shelves, books)


class Best(ForErrors, unittest.TestCase):

    def test_by_hand(self):
        evidence = Evidence(Catalog("a", "b"))
        self.assertIs(best(evidence), None)
        self.assert_same(best(evidence, []), 0)
        self.assert_same(best(evidence, [], [(0, 0), (1, 1)]), 1)
        self.assert_same(best(evidence, [(0, 0), (1, 1)], []), 0)
        # Ties go to the first.
        self.assert_same(best(evidence, [], [(0, 0)], [(0, 0), (1, 1)], [(0, 0), (0, 1)]), 2)

    def test_cases(self):
        chance = random.Random(25)
        indexes = set()
        ties = 0
        for count, shelves, rules in SOUND:
            evidence = evidence_of(count, shelves)
            for _ in range(3):
                groups = [some_books(chance, count, shelves) for _ in range(chance.randint(1, 5))]
                given = [list(books) for books in groups]
                left = [
                    max(many for _, many in listed_outcomes(books, rules)) for books in groups
                ]
                found = best(evidence, *groups)
                self.assert_same(found, left.index(min(left)))
                self.assert_same(groups, given)
                self.assertIs(best(evidence), None)
                indexes.add(found)
                ties += left.count(min(left)) > 1
        self.assertEqual(indexes, {0, 1, 2, 3, 4})
        self.assertGreater(ties, 30)

    def test_invalid_books(self):
        self.assert_invalid_books_in_a_list(best)

        def behind_another_group(evidence, books):
            return best(evidence, [], [(2, 2, 2)], books, [None])
        self.assert_invalid_books_in_a_list(behind_another_group)

    def test_the_first_wrong_book_of_all_groups(self):
        for first, second in itertools.permutations(NO_BOOKS[:16], 2):
            for evidence in (LINE, BROKEN):
                groups = ([(0, 0, 0)], [(0, 0, 0), first], [second])
                self.assert_invalid_book(first, best, evidence, *groups)

    def test_no_rule(self):
        for count, shelves in UNSOUND:
            self.assert_no_rule(best, count, shelves)
            self.assert_no_rule(best, count, shelves, [])
            self.assert_no_rule(best, count, shelves, [(0,) * count], [])


class Plans(ForErrors, unittest.TestCase):

    def assert_tree(self, tree, books, rules):
        """Fail unless the tree is the one of the definition for these rules."""
        found = sorted({arranged(books, terms) for terms in rules})
        if len(found) == 1:
            self.assertIs(type(tree), Leaf)
            self.assert_same(tree.arrangement, found[0])
            return
        self.assertIs(type(tree), Fork)
        self.assert_same(tree.books, tuple(books))
        possible = {}
        for first, second in itertools.combinations(range(len(books)), 2):
            ahead = [terms for terms in rules if order_by(terms, books[first], books[second]) < 1]
            behind = [terms for terms in rules if order_by(terms, books[first], books[second]) == 1]
            if ahead and behind:
                possible[(first, second)] = (ahead, behind)
        fewest = min(max(len(ahead), len(behind)) for ahead, behind in possible.values())
        pair = [
            pair for pair, (ahead, behind) in possible.items()
            if max(len(ahead), len(behind)) == fewest
        ][0]
        self.assert_same((tree.first, tree.second), pair)
        self.assert_tree(tree.before, books, possible[pair][0])
        self.assert_tree(tree.after, books, possible[pair][1])

    def depth(self, tree):
        if isinstance(tree, Leaf):
            return 0
        return 1 + max(self.depth(tree.before), self.depth(tree.after))

    def leaves(self, tree):
        if isinstance(tree, Leaf):
            return [tree.arrangement]
        return self.leaves(tree.before) + self.leaves(tree.after)

    def test_by_hand(self):
        evidence = Evidence(Catalog("a", "b"))
        tree = plan(evidence, [(0, 0), (1, 1), (0, 0)])
        self.assert_same((tree.books, tree.first, tree.second), (
            ((0, 0), (1, 1), (0, 0)), 0, 1,
        ))
        self.assert_same(tree.before.arrangement, (0, 2, 1))
        self.assert_same(tree.after.arrangement, (1, 0, 2))
        self.assert_same(tree.deepest(), 1)
        self.assert_same(tree.arrangements(), [(0, 2, 1), (1, 0, 2)])

    def test_no_book_and_one(self):
        for evidence in (LINE, Evidence(THREE)):
            for books, expected in (
                ([], ()), ([(1, 2, 3)], (0,)), ([(1, 2, 3), (1, 2, 3)], (0, 1)),
            ):
                tree = plan(evidence, books)
                self.assertIs(type(tree), Leaf)
                self.assert_same(tree.arrangement, expected)
                self.assert_same(tree.deepest(), 0)
                self.assert_same(tree.arrangements(), [expected])
                self.assert_same(tree.follow(Rule((0, 1), (1, 1), (2, 1))), expected)

    def test_cases(self):
        chance = random.Random(26)
        depths = set()
        for count, shelves, rules in SOUND:
            evidence = evidence_of(count, shelves)
            for _ in range(3):
                books = some_books(chance, count, shelves)
                given = list(books)
                tree = plan(evidence, books)
                self.assert_same(books, given)
                self.assert_tree(tree, books, rules)
                self.assert_same(tree.deepest(), self.depth(tree))
                self.assert_same(tree.arrangements(), self.leaves(tree))
                self.assert_same(tree.arrangements(), self.leaves(tree))
                for terms in rules[::1 + len(rules) // 30]:
                    self.assert_same(tree.follow(Rule(*terms)), arranged(books, terms))
                depths.add(tree.deepest())
        self.assertTrue({0, 1, 2, 3, 4, 5} <= depths)

    def test_the_answers_are_weighed_by_rules_and_not_by_arrangements(self):
        shelves = {"top": [(0, 0, 0), (1, 0, 0)]}
        rules = fitting_rules(3, shelves)
        evidence = evidence_of(3, shelves)
        for books in itertools.permutations([(0, 0, 0), (1, 0, 1), (2, 1, 0), (0, 2, 1)]):
            self.assert_tree(plan(evidence, list(books)), list(books), rules)

    def test_many_marks(self):
        chance = random.Random(27)
        for count in (6, 8):
            evidence = Evidence(Catalog.numbered(count))
            numbering = Numbering(evidence)
            books = [tuple(chance.randint(0, 2) for _ in range(count)) for _ in range(5)]
            tree = plan(evidence, books)
            found = [arrangement for arrangement, _ in outcomes(evidence, books)]
            self.assertEqual(sorted(tree.arrangements()), found)
            for _ in range(50):
                rule = numbering.rule_at(chance.randrange(numbering.total))
                self.assert_same(tree.follow(rule), arranged(books, rule.terms))

    def test_the_list_may_be_changed(self):
        books = [(0, 0, 0), (0, 1, 1), (0, 0, 1)]
        evidence = Evidence(THREE)
        tree = plan(evidence, books)
        expected = (tree.books, tree.arrangements())
        books[0] = (5, 5, 5)
        books.clear()
        tree.arrangements().clear()
        self.assert_same((tree.books, tree.arrangements()), expected)
        rule = Rule((0, 1), (1, 1), (2, 1))
        self.assert_same(tree.follow(rule), (0, 2, 1))

    def test_arguments_by_name(self):
        tree = plan(books=[(0, 0, 0), (1, 0, 0)], evidence=Evidence(THREE))
        self.assert_same(tree.arrangements(), [(0, 1), (1, 0)])
        self.assert_same(tree.follow(rule=Rule((0, -1), (1, 1), (2, 1))), (1, 0))

    def test_invalid_books(self):
        self.assert_invalid_books_in_a_list(plan)

    def test_no_rule(self):
        for count, shelves in UNSOUND:
            for books in ([], [(0,) * count], [(0,) * count, (1,) * count]):
                self.assert_no_rule(plan, count, shelves, books)


class TreesByHand(Asserts, unittest.TestCase):

    def test_family_of_classes(self):
        self.assertEqual(Leaf.__bases__, (Plan,))
        self.assertEqual(Fork.__bases__, (Plan,))
        self.assertIs(type(Plan()), Plan)
        self.assertIsInstance(plan(LINE, []), Plan)

    def test_attributes(self):
        arrangement, books = (1, 0), ((1,), (2,))
        leaf = Leaf(arrangement)
        self.assertIs(leaf.arrangement, arrangement)
        self.assertIs(Leaf(arrangement=arrangement).arrangement, arrangement)
        other = Leaf((0, 1))
        fork = Fork(after=other, before=leaf, second=1, first=0, books=books)
        self.assertIs(fork.books, books)
        self.assert_same((fork.first, fork.second), (0, 1))
        self.assertIs(fork.before, leaf)
        self.assertIs(fork.after, other)

    def test_methods(self):
        books = ((0, 0), (1, 1), (2, 0))
        deep = Fork(books, 1, 2, Leaf((0, 1, 2)), Leaf((0, 2, 1)))
        tree = Fork(books, 0, 1, deep, Leaf((2, 1, 0)))
        self.assert_same(tree.deepest(), 2)
        self.assert_same(tree.arrangements(), [(0, 1, 2), (0, 2, 1), (2, 1, 0)])
        self.assert_same(tree.follow(Rule((0, 1), (1, 1))), (0, 1, 2))
        self.assert_same(tree.follow(Rule((1, 1), (0, 1))), (0, 2, 1))
        self.assert_same(tree.follow(Rule((0, -1), (1, 1))), (2, 1, 0))
        other = Fork(books, 0, 1, Leaf((2, 1, 0)), Fork(books, 1, 2, Leaf((5,)), deep))
        self.assert_same(other.deepest(), 3)
        self.assert_same(other.arrangements(), [(2, 1, 0), (5,), (0, 1, 2), (0, 2, 1)])
        self.assert_same(other.follow(Rule((1, -1), (0, 1))), (5,))

    def test_asked_twice_after_the_told_list_was_changed(self):
        tree = Fork(((0,), (1,)), 0, 1, Leaf((0, 1)), Leaf((1, 0)))
        for part in (tree, tree.before):
            expected = list(part.arrangements())
            part.arrangements().clear()
            part.arrangements().append(None)
            self.assert_same(part.arrangements(), expected)


if __name__ == "__main__":
    unittest.main()
