"""Points 40, 41 and 45: chain_paper, the slots and line_up, with point 37 for them."""

import functools
import itertools
import random
import unittest

from shelfterms.answers import chain_paper, line_up, order_of, settle, slot_papers, slots
from shelfterms.catalog import Catalog
from shelfterms.errors import InvalidBook, NoRule, Undecided, UnknownShelf
from shelfterms.evidence import Evidence
from shelfterms.papers import Barrier
from shelfterms.rules import Rule
from support import (
    NO_BOOKS, SOUND, UNSOUND, Asserts, Hostile, agree, barrier_parts, book_near, evidence_of,
    fitting_rules, order_by, replaced, shown,
)

THREE = Catalog("a", "b", "c")
# The mark a rises, wherever it counts.
RISING = Evidence.of(THREE, top=[(0, 0, 0), (1, 0, 0)])
LINE = Evidence.of(THREE, top=[(0, 5, 5), (1, 5, 0), (1, 3, 9)])
BROKEN = LINE.with_shelf("low", (0, 0, 1), (0, 0, 2), (0, 0, 1))


class ForNoRule(Asserts):

    def assert_no_rule(self, function, count, shelves, *arguments):
        """Fail unless the call raises NoRule with the barrier of the shelves."""
        evidence = evidence_of(count, shelves)
        with self.assertRaises(NoRule) as caught:
            function(evidence, *arguments)
        self.assertIs(type(caught.exception), NoRule)
        expected = ("Barrier", *barrier_parts([], count, shelves))
        self.assert_same(shown(caught.exception.barrier), expected)

    def assert_invalid_book(self, value, function, *arguments):
        with self.assertRaises(InvalidBook) as caught:
            function(*arguments)
        self.assertIs(type(caught.exception), InvalidBook)
        self.assertIs(caught.exception.book, value)

    def assert_invalid_books_in_a_list(self, function, good):
        """Fail unless the first value that is no book is found at each index of the list."""
        for evidence in (LINE, BROKEN):
            for value in (*NO_BOOKS, Hostile(), (1, 2, Hostile())):
                for at in range(len(good)):
                    books = list(replaced(good, at, value))
                    self.assert_invalid_book(value, function, evidence, books)
                    self.assert_invalid_book(value, function, evidence, [*books, None])
        for first, second in itertools.permutations(NO_BOOKS[:16], 2):
            self.assert_invalid_book(first, function, LINE, [good[0], first, good[1], second])


class ChainPaper(ForNoRule, unittest.TestCase):

    def test_by_hand(self):
        evidence = Evidence.of(Catalog("height", "year"), top=[(3, 1990), (1, 1995), (2, 1995)])
        paper = chain_paper(evidence, [(9, 1990), (1, 1991), (1, 1992)])
        self.assert_same(shown(paper), ("Barrier", (), ((1, 1),), (
            ((0, 1), ("top", 0, 1)), ((0, -1), ("top", 1, 2)), ((1, -1), ("top", 0, 1)),
        )))
        paper = chain_paper(evidence, [(9, 1990), (1, 1991), (3, 1990)])
        self.assert_same(shown(paper), ("Rule", ((1, 1), (0, 1))))

    def test_two_books(self):
        chance = random.Random(3)
        for count, shelves, _ in SOUND:
            evidence = evidence_of(count, shelves)
            books = [book_near(chance, count, shelves) for _ in range(2)]
            expected = order_of(evidence, *books).after
            self.assert_same(shown(chain_paper(evidence, books)), shown(expected))

    def expected(self, evidence, books):
        papers = [order_of(evidence, *pair).after for pair in zip(books, books[1:])]
        rules = [paper for paper in papers if isinstance(paper, Rule)]
        return rules[0] if rules else functools.reduce(lambda one, two: one & two, papers)

    def test_cases(self):
        chance = random.Random(4)
        kinds = {"Rule": 0, "Barrier": 0}
        for count, shelves, rules in SOUND:
            evidence = evidence_of(count, shelves)
            for _ in range(5):
                books = [book_near(chance, count, shelves) for _ in range(chance.randint(2, 6))]
                if chance.randrange(3):
                    rule = rules[chance.randrange(len(rules))]
                    books.sort(key=lambda book: [sign * book[mark] for mark, sign in rule])
                    books = [book for book, _ in itertools.groupby(books)]
                if len(books) < 2:
                    continue
                given = list(books)
                paper = chain_paper(evidence, books)
                self.assert_same(books, given)
                self.assert_same(shown(paper), shown(self.expected(evidence, books)))
                sure = all(
                    order_by(terms, *pair) == -1 for terms in rules
                    for pair in zip(books, books[1:])
                )
                self.assertIs(isinstance(paper, Rule), not sure)
                kinds[shown(paper)[0]] += 1
                if sure:
                    self.assert_shows(paper, books[0], books[-1])
        self.assertGreater(min(kinds.values()), 60)

    def assert_shows(self, paper, first, last):
        """Fail unless each exit puts the first book ahead of the last one."""
        self.assertIs(type(paper), Barrier)
        self.assertTrue(agree(first, last, paper.inside))
        for mark, direction in paper.exits:
            self.assertGreater((last[mark] - first[mark]) * direction, 0)

    def test_rows_of_a_shelf(self):
        for count, shelves, _ in SOUND:
            evidence = evidence_of(count, shelves)
            for books in shelves.values():
                row = [book for book, _ in itertools.groupby(books)]
                if len(row) > 1:
                    self.assert_shows(chain_paper(evidence, row), row[0], row[-1])

    def test_the_combination_goes_from_left_to_right(self):
        # Both barriers block (1, -1), each by another place: that of the left one stays.
        evidence = Evidence.of(Catalog("a", "b", "c"), top=[(0, 0, 1), (0, 1, 0)], low=[
            (1, 0, 0), (0, 1, 0),
        ], mid=[(5, 0, 0), (5, 0, 1)], far=[(0, 0, 0), (1, 0, 0)])
        for books in itertools.permutations(
            [(0, 0, 0), (0, 0, 1), (0, 1, 0), (0, 1, 1), (1, 0, 0), (1, 1, 1)], 3,
        ):
            books = list(books)
            expected = shown(self.expected(evidence, books))
            self.assert_same(shown(chain_paper(evidence, books)), expected)

    def test_the_first_rule_of_several(self):
        evidence = Evidence(Catalog("a", "b"))
        paper = chain_paper(evidence, [(0, 1), (0, 2), (1, 2)])
        self.assert_same(shown(paper), ("Rule", ((0, 1), (1, -1))))
        paper = chain_paper(evidence, [(0, 1), (1, 1), (1, 2)])
        self.assert_same(shown(paper), ("Rule", ((0, -1), (1, 1))))

    def test_equal_neighbours(self):
        paper = chain_paper(LINE, [(0, 5, 5), (1, 5, 0), (1, 5, 0), (1, 3, 9)])
        self.assert_same(shown(paper), ("Rule", ((0, 1), (1, -1), (2, 1))))

    def test_arguments_by_name(self):
        paper = chain_paper(books=[(0, 5, 5), (1, 5, 0)], evidence=LINE)
        self.assert_same(shown(paper), shown(order_of(LINE, (0, 5, 5), (1, 5, 0)).after))

    def test_invalid_books(self):
        self.assert_invalid_books_in_a_list(chain_paper, ((0, 0, 0), (1, 1, 1), (0, 0, 1)))
        # Also behind two neighbours that do not surely come so.
        for value in NO_BOOKS:
            self.assert_invalid_book(value, chain_paper, LINE, [(1, 1, 1), (0, 0, 0), value])

    def test_no_rule(self):
        for count, shelves in UNSOUND:
            books = [(0,) * count, (1,) * count]
            self.assert_no_rule(chain_paper, count, shelves, books)


class Slots(ForNoRule, unittest.TestCase):

    def expected(self, count, shelves, name, book):
        """Return for each slot what stands there, from the listed rules or step by step."""
        found = []
        for slot in range(len(shelves[name]) + 1):
            row = [*shelves[name][:slot], book, *shelves[name][slot:]]
            low = max(slot - 1, 0)
            more = {**shelves, "?": row[low:slot + 2]}
            rules = fitting_rules(count, more)
            if rules:
                found.append(("Rule", rules[0]))
            else:
                found.append(("Barrier", *barrier_parts([], count, more)))
        return found

    def assert_slots(self, count, shelves, name, book):
        evidence = evidence_of(count, shelves)
        papers = slot_papers(evidence, name, book)
        self.assertIs(type(papers), list)
        expected = self.expected(count, shelves, name, book)
        self.assert_same([shown(paper) for paper in papers], expected)
        numbers = [slot for slot, parts in enumerate(expected) if parts[0] == "Rule"]
        self.assert_same(slots(evidence, name, book), numbers)
        return len(numbers), len(papers)

    def test_by_hand(self):
        evidence = Evidence.of(Catalog("height", "year"), top=[(3, 1990), (1, 1995), (2, 1995)])
        self.assert_same(slots(evidence, "top", (2, 1994)), [1])
        self.assert_same(slots(evidence, "top", (2, 1995)), [2, 3])
        self.assert_same(slots(evidence, "top", (0, 1980)), [0])
        self.assert_same(slots(evidence, "top", (0, 1999)), [3])
        self.assert_same(slots(evidence, "top", (0, 1990)), [0])
        papers = slot_papers(evidence, "top", (2, 1994))
        self.assert_same(shown(papers[0]), ("Barrier", (), (), (
            ((0, 1), ("top", 0, 1)), ((0, -1), ("top", 1, 2)), ((1, 1), ("?", 0, 1)),
            ((1, -1), ("top", 0, 1)),
        )))
        self.assert_same(shown(papers[1]), ("Rule", ((1, 1), (0, 1))))

    def test_a_shelf_without_books(self):
        evidence = LINE.with_shelf("low")
        self.assert_same(slots(evidence, "low", (7, 7, 7)), [0])
        papers = slot_papers(evidence, "low", (7, 7, 7))
        self.assert_same([shown(paper) for paper in papers], [shown(settle(LINE))])

    def test_a_shelf_with_one_book(self):
        evidence = Evidence.of(Catalog("a", "b"), top=[(1, 1)], low=[(0, 0), (5, 0)])
        self.assert_same(slots(evidence, "top", (1, 1)), [0, 1])
        self.assert_same(slots(evidence, "top", (1, 2)), [0, 1])
        self.assert_same(slots(evidence, "top", (2, 1)), [1])
        self.assert_same(slots(evidence, "top", (0, 1)), [0])
        self.assert_same(shown(slot_papers(evidence, "top", (1, 2))[0]), (
            "Rule", ((0, 1), (1, -1)),
        ))

    def test_cases(self):
        chance = random.Random(5)
        possible = total = 0
        for count, shelves, _ in SOUND:
            if "?" not in shelves:
                for name in shelves:
                    book = book_near(chance, count, shelves)
                    some, many = self.assert_slots(count, shelves, name, book)
                    possible += some
                    total += many
        self.assertGreater(possible, 100)
        self.assertGreater(total - possible, 100)

    def test_a_new_list_each_time(self):
        papers = slot_papers(LINE, "top", (0, 0, 0))
        found = slots(LINE, "top", (0, 0, 0))
        expected = ([shown(paper) for paper in papers], list(found))
        papers.clear()
        found.append(7)
        again = [shown(paper) for paper in slot_papers(LINE, "top", (0, 0, 0))]
        self.assert_same((again, slots(LINE, "top", (0, 0, 0))), expected)

    def test_the_evidence_stays(self):
        slots(LINE, "top", (0, 0, 0))
        self.assert_same(LINE.shelf_names, ("top",))
        self.assert_same(LINE["top"], ((0, 5, 5), (1, 5, 0), (1, 3, 9)))

    def test_arguments_by_name(self):
        self.assert_same(slots(book=(1, 5, 0), name="top", evidence=LINE), [1, 2])
        self.assertEqual(len(slot_papers(book=(1, 5, 0), name="top", evidence=LINE)), 4)

    def test_unknown_shelves(self):
        for evidence in (LINE, BROKEN):
            for name in ("", "mid", "TOP", "top ", "?", "a", "topp", "x" * 13):
                for book in ((0, 0, 0), None, (1, 2), Hostile()):
                    for function in (slots, slot_papers):
                        self.assert_raises(
                            UnknownShelf, {"name": name}, function, evidence, name, book,
                        )

    def test_invalid_books(self):
        for evidence in (LINE, BROKEN, LINE.with_shelf("low")):
            for name in evidence.shelf_names:
                for value in (*NO_BOOKS, Hostile(), (1, 2, Hostile())):
                    for function in (slots, slot_papers):
                        self.assert_invalid_book(value, function, evidence, name, value)

    def test_no_rule(self):
        asked = 0
        for count, shelves in UNSOUND:
            if "?" not in shelves:
                for name in shelves:
                    for function in (slots, slot_papers):
                        self.assert_no_rule(function, count, shelves, name, (0,) * count)
                        asked += 1
        self.assertGreater(asked, 20)


class LineUp(ForNoRule, unittest.TestCase):

    def first_undecided(self, books, rules):
        """Return the first pair of indices that two of the rules put differently, or None."""
        for first, second in itertools.combinations(range(len(books)), 2):
            if len({order_by(terms, books[first], books[second]) for terms in rules}) > 1:
                return {"first": first, "second": second}
        return None

    def test_by_hand(self):
        evidence = Evidence.of(Catalog("height", "year"), top=[(3, 1990), (1, 1995), (2, 1995)])
        books = [(2, 1995), (7, 1990), (1, 1999), (2, 1995)]
        expected = [(7, 1990), (2, 1995), (2, 1995), (1, 1999)]
        self.assert_same(line_up(evidence, books), expected)
        pair = {"first": 0, "second": 1}
        undecided = [(1, 5), (2, 3)]
        self.assert_raises(
            Undecided, pair, line_up, Evidence(Catalog("height", "year")), undecided,
        )

    def test_no_book_and_one(self):
        for evidence in (LINE, Evidence(THREE)):
            self.assert_same(line_up(evidence, []), [])
            self.assert_same(line_up(evidence, [(4, 5, 6)]), [(4, 5, 6)])
            self.assert_same(line_up(evidence, [(4, 5, 6)] * 3), [(4, 5, 6)] * 3)

    def test_the_first_pair_in_ascending_order(self):
        # The mark a decides first, b may have both directions.
        evidence = Evidence.of(Catalog("a", "b"), top=[(0, 0), (1, 1)], low=[(0, 1), (1, 0)])
        for books, first, second in (
            ([(0, 0), (1, 0), (1, 1), (2, 2)], 1, 2),
            ([(0, 0), (1, 0), (0, 1)], 0, 2),
            ([(3, 0), (1, 0), (2, 0), (2, 1), (3, 1)], 0, 4),
            ([(3, 0), (2, 0), (1, 0), (2, 1)], 1, 3),
        ):
            expected = {"first": first, "second": second}
            self.assert_raises(Undecided, expected, line_up, evidence, books)

    def test_cases(self):
        chance = random.Random(6)
        decided = undecided = 0
        for count, shelves, rules in SOUND:
            evidence = evidence_of(count, shelves)
            for _ in range(5):
                books = [book_near(chance, count, shelves) for _ in range(chance.randint(0, 5))]
                books = books + chance.choices(books, k=2) if books else books
                chance.shuffle(books)
                given = list(books)
                expected = self.first_undecided(books, rules)
                if expected is None:
                    rule = rules[-1]
                    books_in_order = sorted(
                        books, key=lambda book: [sign * book[mark] for mark, sign in rule],
                    )
                    self.assert_same(line_up(evidence, books), books_in_order)
                    decided += 1
                else:
                    self.assert_raises(Undecided, expected, line_up, evidence, books)
                    undecided += 1
                self.assert_same(books, given)
        self.assertGreater(min(decided, undecided), 100)

    def test_the_words_of_the_pairs(self):
        chance = random.Random(7)
        for count, shelves, _ in SOUND[:80]:
            evidence = evidence_of(count, shelves)
            books = [book_near(chance, count, shelves) for _ in range(4)]
            pairs = [
                pair for pair in itertools.combinations(range(4), 2)
                if order_of(evidence, *[books[at] for at in pair]).word == "either"
            ]
            if pairs:
                expected = {"first": pairs[0][0], "second": pairs[0][1]}
                self.assert_raises(Undecided, expected, line_up, evidence, books)
            else:
                self.assertEqual(sorted(line_up(evidence, books)), sorted(books))

    def test_a_new_list(self):
        books = [(0, 0, 0), (1, 0, 0)]
        found = line_up(RISING, books)
        found.clear()
        self.assert_same(books, [(0, 0, 0), (1, 0, 0)])
        self.assert_same(line_up(RISING, books), [(0, 0, 0), (1, 0, 0)])

    def test_arguments_by_name(self):
        found = line_up(books=[(1, 0, 0), (0, 0, 0)], evidence=RISING)
        self.assert_same(found, [(0, 0, 0), (1, 0, 0)])

    def test_invalid_books(self):
        # The pairs of the good books are undecided.
        self.assert_invalid_books_in_a_list(line_up, ((1, 1, 1), (1, 1, 2), (1, 1, 0)))
        for value in NO_BOOKS:
            self.assert_invalid_book(value, line_up, LINE, [value])

    def test_no_rule(self):
        for count, shelves in UNSOUND:
            book = (0,) * count
            for books in ([], [book], [book, (1,) * count, book]):
                self.assert_no_rule(line_up, count, shelves, books)


if __name__ == "__main__":
    unittest.main()
