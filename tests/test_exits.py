"""Points 42 to 44: exits, marks, directions and needed marks, with points 27, 34 and 37."""

import itertools
import random
import unittest

from shelfterms.answers import (
    direction_paper, exit_paper, exits_of, mark_paper, need_paper,
)
from shelfterms.catalog import Catalog
from shelfterms.errors import InvalidMark, InvalidTerm, NoRule
from shelfterms.evidence import Evidence
from shelfterms.papers import Barrier, Gate
from shelfterms.rules import Rule
from support import (
    LISTED, NO_MARKS, NO_TERMS, SOUND, UNSOUND, Asserts, barrier_parts, blocks_behind, completed,
    evidence_of, neighbours, next_open, open_behind, order_by, shown, terms_of,
)

THREE = Catalog("a", "b", "c")
LINE = Evidence.of(THREE, top=[(0, 5, 5), (1, 5, 0), (1, 3, 9)])
BROKEN = LINE.with_shelf("low", (0, 0, 1), (0, 0, 2), (0, 0, 1))
# Values that are no directions.
NO_DIRECTIONS = (
    0, 2, -2, 10 ** 30, -10 ** 30, True, False, 1.0, -1.0, "1", "asc", None, (1,), [1], [], {},
)


def sets_of_some(count, fewer=1):
    """Return lists of marks, not all of them, in several orders."""
    return [
        list(marks) for size in range(count + 1 - fewer)
        for marks in itertools.permutations(range(count), size)
    ]


def first_outside(terms, inside):
    """Return the first term with a mark that is not inside."""
    return [term for term in terms if term[0] not in inside][0]


class ForErrors(Asserts):

    def assert_raised(self, error, attribute, value, function, *arguments):
        with self.assertRaises(error) as caught:
            function(*arguments)
        self.assertIs(type(caught.exception), error)
        self.assertIs(getattr(caught.exception, attribute), value)

    def assert_no_rule(self, function, count, shelves, *arguments):
        with self.assertRaises(NoRule) as caught:
            function(evidence_of(count, shelves), *arguments)
        self.assertIs(type(caught.exception), NoRule)
        expected = ("Barrier", *barrier_parts([], count, shelves))
        self.assert_same(shown(caught.exception.barrier), expected)

    def assert_invalid_marks_in_a_list(self, function, *rest):
        for evidence in (LINE, BROKEN):
            for value in NO_MARKS:
                for marks in ([value], [0, value], [value, 0], [1, value, None, 1]):
                    given = list(marks)
                    self.assert_raised(
                        InvalidMark, "mark", value, function, evidence, marks, *rest,
                    )
                    self.assertTrue(all(one is two for one, two in zip(marks, given)))
            for marks, mark in (([0, 0], 0), ([2, 1, 2], 2), ([1, 2, 2, 1], 2), ([0, 1, 1, 7], 1)):
                self.assert_raises(InvalidMark, {"mark": mark}, function, evidence, marks, *rest)
        for first, second in itertools.permutations(NO_MARKS, 2):
            marks = [0, first, 1, second]
            self.assert_raised(InvalidMark, "mark", first, function, LINE, marks, *rest)


class ExitsOf(ForErrors, unittest.TestCase):

    def test_by_hand(self):
        self.assert_same(exits_of(LINE, []), [(0, 1), (1, -1)])
        self.assert_same(exits_of(LINE, [0]), [(1, -1), (2, 1)])
        self.assert_same(exits_of(LINE, [1]), [(0, 1), (2, -1)])
        self.assert_same(exits_of(LINE, [2]), [(0, 1), (1, -1)])
        self.assert_same(exits_of(LINE, [1, 0]), [(2, 1), (2, -1)])
        self.assert_same(exits_of(LINE, [2, 0]), [(1, 1), (1, -1)])

    def test_cases(self):
        for count, shelves, rules in SOUND:
            evidence = evidence_of(count, shelves)
            for inside in sets_of_some(count):
                found = {first_outside(terms, inside) for terms in rules}
                expected = [term for term in terms_of(count) if term in found]
                given = list(inside)
                self.assert_same(exits_of(evidence, inside), expected)
                self.assert_same(inside, given)

    def test_a_new_list(self):
        exits_of(LINE, []).clear()
        self.assert_same(exits_of(LINE, []), [(0, 1), (1, -1)])

    def test_arguments_by_name(self):
        self.assert_same(exits_of(inside=[1], evidence=LINE), [(0, 1), (2, -1)])

    def test_invalid_marks(self):
        self.assert_invalid_marks_in_a_list(exits_of)

    def test_no_rule(self):
        for count, shelves in UNSOUND:
            for inside in sets_of_some(count)[:4]:
                self.assert_no_rule(exits_of, count, shelves, inside)


class ExitPaper(ForErrors, unittest.TestCase):

    def expected(self, inside, exits, count, shelves, rules):
        """Return what the document says, with the question answered by the listed rules."""
        others = {first_outside(terms, inside) for terms in rules} - set(exits)
        terms = ()
        while following := next_open(terms, lambda term: term[0] in inside, count, shelves):
            terms = (*terms, following)
        if others:
            following = next_open(terms, lambda term: term not in exits, count, shelves)
            return ("Rule", completed((*terms, following), count, shelves))
        reached = [mark for mark, _ in terms]
        leaving = open_behind(reached, count, shelves)
        blocks = blocks_behind(reached, range(count), leaving, count, shelves)
        return ("Barrier", tuple(sorted(reached)), tuple(leaving), blocks)

    def assert_exit_paper(self, inside, exits, case, evidence):
        given = (list(inside), list(exits))
        paper = exit_paper(evidence, inside, exits)
        self.assert_same((inside, exits), given)
        self.assert_same(shown(paper), self.expected(inside, exits, *case))
        if isinstance(paper, Rule):
            self.assertTrue(evidence.fits(paper))
            self.assertNotIn(first_outside(paper.terms, inside), exits)
        return type(paper)

    def test_by_hand(self):
        paper = exit_paper(LINE, [1], [(0, 1), (2, -1)])
        self.assert_same(shown(paper), ("Barrier", (1,), ((0, 1), (2, -1)), (
            ((0, -1), ("top", 0, 1)), ((2, 1), ("top", 0, 1)),
        )))
        paper = exit_paper(LINE, [1], [(0, 1)])
        self.assert_same(shown(paper), ("Rule", ((1, -1), (2, -1), (0, 1))))
        # The mark c cannot be taken at first, so it is not inside.
        paper = exit_paper(LINE, [2], [(1, -1), (0, 1), (1, 1)])
        self.assert_same(shown(paper), ("Barrier", (), ((0, 1), (1, -1)), (
            ((0, -1), ("top", 0, 1)), ((1, 1), ("top", 1, 2)),
            ((2, 1), ("top", 0, 1)), ((2, -1), ("top", 1, 2)),
        )))

    def test_each_set_of_exits_of_two_marks(self):
        terms = terms_of(2)
        for count, shelves, rules in LISTED:
            if count == 2 and rules:
                evidence = evidence_of(count, shelves)
                for inside in ([], [0], [1]):
                    for size in range(5):
                        for exits in itertools.permutations(terms, size):
                            self.assert_exit_paper(
                                inside, list(exits), (count, shelves, rules), evidence,
                            )

    def test_cases(self):
        chance = random.Random(8)
        kinds = {Rule: 0, Barrier: 0}
        for count, shelves, rules in SOUND:
            evidence = evidence_of(count, shelves)
            for inside in sets_of_some(count)[:8] + sets_of_some(count)[-3:]:
                leaving = sorted({first_outside(terms, inside) for terms in rules})
                more = [term for term in terms_of(count) if term not in leaving]
                chance.shuffle(more)
                exits = leaving + more[:chance.randint(0, len(more))]
                chance.shuffle(exits)
                fewer = [term for term in exits if term != leaving[0]]
                for asked in (exits, fewer, [], terms_of(count)):
                    case = (count, shelves, rules)
                    kinds[self.assert_exit_paper(inside, asked, case, evidence)] += 1
        self.assertGreater(min(kinds.values()), 200)

    def test_arguments_by_name(self):
        paper = exit_paper(exits=[(0, 1)], inside=[1], evidence=LINE)
        self.assert_same(shown(paper), ("Rule", ((1, -1), (2, -1), (0, 1))))

    def test_invalid_marks(self):
        self.assert_invalid_marks_in_a_list(exit_paper, [])
        # They come ahead of wrong terms.
        self.assert_invalid_marks_in_a_list(exit_paper, [None, (7, 7)])

    def test_invalid_terms(self):
        for evidence in (LINE, BROKEN):
            for value in NO_TERMS:
                for terms in ([value], [(0, 1), value, None], [(0, 1), (0, -1), (2, 1), value]):
                    given = list(terms)
                    self.assert_raised(
                        InvalidTerm, "term", value, exit_paper, evidence, [1], terms,
                    )
                    self.assertTrue(all(one is two for one, two in zip(terms, given)))
            for terms, term in (
                ([(0, 1), (0, 1)], (0, 1)), ([(2, 1), (0, 1), (1, 1), (0, 1), (2, 1)], (0, 1)),
                ([(1, -1), (1, 1), (1, -1), None], (1, -1)),
            ):
                self.assert_raises(InvalidTerm, {"term": term}, exit_paper, evidence, [], terms)
        for first, second in itertools.permutations(NO_TERMS, 2):
            terms = [(0, 1), first, (1, 1), second]
            self.assert_raised(InvalidTerm, "term", first, exit_paper, LINE, [], terms)

    def test_no_rule(self):
        for count, shelves in UNSOUND:
            for inside in sets_of_some(count)[:4]:
                for exits in ([], [(0, 1)], terms_of(count)):
                    self.assert_no_rule(exit_paper, count, shelves, inside, exits)


class MarkPaper(ForErrors, unittest.TestCase):

    def expected(self, first, second, count, shelves, rules):
        if all(
            [mark for mark, _ in terms if mark in (first, second)][0] == first for terms in rules
        ):
            return ("Barrier", *barrier_parts([(first, 1), (first, -1)], count, shelves))
        terms = ()
        while second not in [mark for mark, _ in terms]:
            following = next_open(terms, lambda term: term[0] != first, count, shelves)
            terms = (*terms, following)
        return ("Rule", completed(terms, count, shelves))

    def test_by_hand(self):
        evidence = Evidence.of(Catalog("height", "year"), top=[(3, 1990), (1, 1995), (2, 1995)])
        self.assert_same(shown(mark_paper(evidence, 1, 0)), (
            "Barrier", (), ((1, 1), (1, -1)),
            (((0, 1), ("top", 0, 1)), ((0, -1), ("top", 1, 2))),
        ))
        self.assert_same(shown(mark_paper(evidence, 0, 1)), ("Rule", ((1, 1), (0, 1))))
        self.assert_same(shown(mark_paper(LINE, 0, 2)), ("Rule", ((1, -1), (2, -1), (0, 1))))
        self.assert_same(shown(mark_paper(LINE, 2, 1)), ("Rule", ((0, 1), (1, -1), (2, 1))))

    def test_cases(self):
        kinds = {Rule: 0, Barrier: 0}
        for count, shelves, rules in SOUND:
            evidence = evidence_of(count, shelves)
            for first, second in itertools.permutations(range(count), 2):
                paper = mark_paper(evidence, first, second)
                expected = self.expected(first, second, count, shelves, rules)
                self.assert_same(shown(paper), expected)
                if isinstance(paper, Rule):
                    self.assertTrue(evidence.fits(paper))
                    self.assertLess(paper.marks.index(second), paper.marks.index(first))
                kinds[type(paper)] += 1
        self.assertGreater(min(kinds.values()), 100)

    def test_arguments_by_name(self):
        paper = mark_paper(second=2, first=0, evidence=LINE)
        self.assert_same(shown(paper), ("Rule", ((1, -1), (2, -1), (0, 1))))

    def test_invalid_marks(self):
        for evidence in (LINE, BROKEN):
            for value in NO_MARKS:
                for marks in ((value, 0), (0, value), (value, None)):
                    self.assert_raised(InvalidMark, "mark", value, mark_paper, evidence, *marks)
            for mark in range(3):
                self.assert_raises(
                    InvalidMark, {"mark": mark}, mark_paper, evidence, mark, mark,
                )
        for first, second in itertools.permutations(NO_MARKS, 2):
            self.assert_raised(InvalidMark, "mark", first, mark_paper, LINE, first, second)

    def test_no_rule(self):
        for count, shelves in UNSOUND:
            for marks in itertools.permutations(range(count), 2):
                self.assert_no_rule(mark_paper, count, shelves, *marks)


class DirectionPaper(ForErrors, unittest.TestCase):

    def expected(self, mark, direction, count, shelves, rules):
        if not any((mark, direction) in terms for terms in rules):
            return ("Barrier", *barrier_parts([(mark, -direction)], count, shelves))
        terms = ()
        while len(terms) < count:
            following = next_open(terms, lambda term: term != (mark, -direction), count, shelves)
            terms = (*terms, following)
        return ("Rule", terms)

    def test_by_hand(self):
        self.assert_same(shown(direction_paper(LINE, 1, 1)), ("Rule", ((0, 1), (2, 1), (1, 1))))
        self.assert_same(shown(direction_paper(LINE, 1, -1)), ("Rule", ((0, 1), (1, -1), (2, 1))))
        evidence = Evidence.of(Catalog("height", "year"), top=[(3, 1990), (1, 1995), (2, 1995)])
        self.assert_same(shown(direction_paper(evidence, 1, -1)), ("Barrier", (), ((1, 1),), (
            ((0, 1), ("top", 0, 1)), ((0, -1), ("top", 1, 2)), ((1, -1), ("top", 0, 1)),
        )))
        self.assert_same(shown(direction_paper(evidence, 0, -1)), ("Barrier", (1,), ((0, 1),), (
            ((0, -1), ("top", 1, 2)),
        )))

    def test_cases(self):
        kinds = {Rule: 0, Barrier: 0}
        for count, shelves, rules in SOUND:
            evidence = evidence_of(count, shelves)
            for mark, direction in terms_of(count):
                paper = direction_paper(evidence, mark, direction)
                expected = self.expected(mark, direction, count, shelves, rules)
                self.assert_same(shown(paper), expected)
                if isinstance(paper, Rule):
                    self.assertTrue(evidence.fits(paper))
                    self.assertEqual(paper.direction_of(mark), direction)
                kinds[type(paper)] += 1
        self.assertGreater(min(kinds.values()), 100)

    def test_arguments_by_name(self):
        paper = direction_paper(direction=1, mark=1, evidence=LINE)
        self.assert_same(shown(paper), ("Rule", ((0, 1), (2, 1), (1, 1))))

    def test_invalid_marks(self):
        for evidence in (LINE, BROKEN):
            for value in NO_MARKS:
                for direction in (1, -1, 0, None):
                    self.assert_raised(
                        InvalidMark, "mark", value, direction_paper, evidence, value, direction,
                    )

    def test_invalid_terms(self):
        for evidence in (LINE, BROKEN):
            for mark in range(3):
                for direction in NO_DIRECTIONS:
                    expected = {"term": (mark, direction)}
                    self.assert_raises(
                        InvalidTerm, expected, direction_paper, evidence, mark, direction,
                    )

    def test_no_rule(self):
        for count, shelves in UNSOUND:
            for term in terms_of(count):
                self.assert_no_rule(direction_paper, count, shelves, *term)


class NeedPaper(ForErrors, unittest.TestCase):

    def expected(self, mark, count, shelves):
        """Return the rule taken step by step until all is decided, or the parts of the gate."""
        terms = ()
        while undecided := self.undecided(terms, shelves):
            following = next_open(terms, lambda term: term[0] != mark, count, shelves)
            if following is None:
                break
            terms = (*terms, following)
        if not undecided:
            return ("Rule", terms)
        inside = tuple(sorted(other for other, _ in terms))
        among = tuple(other for other in range(count) if other != mark)
        blocks = blocks_behind(inside, among, (), count, shelves)
        return ("Gate", inside, (), blocks, among, undecided[0])

    def undecided(self, terms, shelves):
        return [
            (name, i, j) for name, i, j in neighbours(shelves)
            if order_by(terms, shelves[name][i], shelves[name][j]) == 0
        ]

    def explainable(self, mark, shelves, rules):
        """Return True if some rule without the mark explains, as the listed rules tell."""
        # A rule that explains and is not full is the beginning of a full one that fits; in
        # that one the mark may be cut off with all behind it.
        cut = [
            terms[:[other for other, _ in terms].index(mark)] for terms in rules
        ]
        return any(not self.undecided(terms, shelves) for terms in cut)

    def test_by_hand(self):
        gate = need_paper(LINE, 1)
        self.assert_same(shown(gate), ("Rule", ((0, 1), (2, 1))))
        evidence = Evidence.of(Catalog("height", "year"), top=[(3, 1990), (1, 1995), (2, 1995)])
        gate = need_paper(evidence, 1)
        self.assert_same(shown(gate), ("Gate", (), (), (
            ((0, 1), ("top", 0, 1)), ((0, -1), ("top", 1, 2)),
        ), (0,), ("top", 0, 1)))
        gate = need_paper(evidence, 0)
        self.assert_same(shown(gate), ("Gate", (1,), (), (), (1,), ("top", 1, 2)))

    def test_without_places(self):
        for count in range(1, 9):
            catalog = Catalog.numbered(count)
            for evidence in (Evidence(catalog), Evidence.of(catalog, top=[(1,) * count] * 3)):
                for mark in range(count):
                    self.assert_same(shown(need_paper(evidence, mark)), ("Rule", ()))

    def test_cases(self):
        kinds = {Rule: 0, Gate: 0}
        lengths = set()
        for count, shelves, rules in SOUND:
            evidence = evidence_of(count, shelves)
            for mark in range(count):
                paper = need_paper(evidence, mark)
                self.assert_same(shown(paper), self.expected(mark, count, shelves))
                explainable = self.explainable(mark, shelves, rules)
                self.assertIs(isinstance(paper, Rule), explainable)
                if isinstance(paper, Rule):
                    self.assertTrue(evidence.explains(paper))
                    self.assertNotIn(mark, paper)
                    lengths.add(len(paper))
                kinds[type(paper)] += 1
        self.assertGreater(min(kinds.values()), 100)
        self.assertEqual(lengths, {0, 1, 2, 3})

    def test_arguments_by_name(self):
        self.assert_same(shown(need_paper(mark=1, evidence=LINE)), ("Rule", ((0, 1), (2, 1))))

    def test_invalid_marks(self):
        for evidence in (LINE, BROKEN):
            for value in NO_MARKS:
                self.assert_raised(InvalidMark, "mark", value, need_paper, evidence, value)

    def test_no_rule(self):
        for count, shelves in UNSOUND:
            for mark in range(count):
                self.assert_no_rule(need_paper, count, shelves, mark)


if __name__ == "__main__":
    unittest.main()
