"""Point 2: at its bounds, with eight marks, the answers take a short time."""

import random
import time
import unittest

from shelfterms import answers, asking, culling, judging, notation, shortening
from shelfterms.errors import NoRule, Undecided
from shelfterms.evidence import Evidence
from shelfterms.family import Family
from shelfterms.library import Library
from shelfterms.numbering import Numbering
from shelfterms.papers import Barrier, Gate, Refusal
from shelfterms.rules import Rule
from support import Asserts, bounds_case, terms_of

SECONDS = 5
# Few values give many equal ones, many values give long rows of different steps.
SOUND = [bounds_case(most, most) for most in (0, 1, 2, 5, 10 ** 12)]
UNSOUND = [bounds_case(most, most, 3) for most in (1, 2, 5, 10 ** 12)]


def scattered_case():
    """Return an evidence at the bounds whose barrier has each block on a shelf of its own."""
    chance = random.Random(30)
    disorder, _ = bounds_case(30, 10 ** 6, 40)
    evidence = Evidence(disorder.catalog)
    for name, term in zip(disorder.shelf_names, terms_of(8)):
        first = tuple(chance.randint(0, 9) for _ in range(8))
        second = tuple(
            value - term[1] if mark == term[0] else value for mark, value in enumerate(first)
        )
        evidence = evidence.with_books(name, [first] * 19 + [second] * 21)
    for name in disorder.shelf_names[16:]:
        evidence = evidence.with_books(name, disorder[name])
    return evidence


class Bounds(Asserts, unittest.TestCase):

    def setUp(self):
        self.start = time.perf_counter()

    def tearDown(self):
        # The longest takes less than half a second; so this does not hang on the machine.
        self.assertLess(time.perf_counter() - self.start, SECONDS)

    def books(self, evidence, many):
        """Return books of the evidence, and as many others of their values."""
        chance = random.Random(many)
        books = [evidence.pair(place)[0] for place in evidence.places()] or [(0,) * 8]
        found = chance.choices(books, k=many)
        return found + [tuple(chance.choice(found)[mark] for mark in range(8)) for _ in found]

    def assert_answer(self, evidence, paper, spots=()):
        """Fail unless the rule or the barrier is right."""
        judge = judging.judge_rule if isinstance(paper, Rule) else judging.judge_barrier
        self.assertIs(judge(evidence, paper, spots), True)

    def test_settle(self):
        for evidence, rule in SOUND + UNSOUND:
            spots = list(evidence.all_spots())
            paper = answers.settle(evidence)
            self.assert_answer(evidence, paper)
            self.assertIs(type(paper), Rule if (evidence, rule) in SOUND else Barrier)
            for some in (spots[:1], spots[::2], spots[:1] * 800, spots):
                self.assert_answer(evidence, answers.settle(evidence, some), some)

    def test_order_of(self):
        for evidence, _ in SOUND:
            books = self.books(evidence, 6)
            for first, second in zip(books, books[1:]):
                order = answers.order_of(evidence, first, second)
                self.assert_answer(evidence, order.before)
                self.assert_answer(evidence, order.after)

    def test_chain_paper(self):
        for evidence, _ in SOUND[1:]:
            for name in evidence.shelf_names[:5]:
                row = list(dict.fromkeys(evidence[name]))
                paper = answers.chain_paper(evidence, row)
                self.assertIs(judging.judge_before(evidence, paper, row[0], row[-1]), True)

    def test_slots(self):
        for evidence, _ in SOUND:
            name = evidence.shelf_names[7]
            book = evidence[name][20]
            shorter = evidence.without_shelf(name).with_books(
                name, [other for other in evidence[name] if other != book],
            )
            ahead = [other for other in evidence[name][:20] if other != book]
            self.assertIn(len(ahead), answers.slots(shorter, name, book))

    def test_exits(self):
        for evidence, _ in SOUND:
            for inside in ([], [0], [7, 3], [1, 2, 3, 4], list(range(1, 8))):
                exits = answers.exits_of(evidence, inside)
                paper = answers.exit_paper(evidence, inside, exits)
                self.assertIs(type(paper), Barrier)
                self.assert_answer(evidence, paper)
                paper = answers.exit_paper(evidence, inside, exits[1:])
                self.assertIs(type(paper), Rule)
                self.assert_answer(evidence, paper)

    def test_marks_and_directions(self):
        for evidence, _ in SOUND:
            for first, second in ((0, 1), (1, 0), (7, 3), (3, 7)):
                self.assert_answer(evidence, answers.mark_paper(evidence, first, second))
            for mark, direction in terms_of(8):
                self.assert_answer(evidence, answers.direction_paper(evidence, mark, direction))

    def test_need_paper(self):
        for evidence, _ in SOUND:
            for mark in range(8):
                paper = answers.need_paper(evidence, mark)
                if isinstance(paper, Gate):
                    self.assertIs(judging.judge_gate(evidence, paper), True)
                else:
                    self.assertIs(evidence.explains(paper), True)

    def test_line_up(self):
        for evidence, rule in SOUND:
            shelf = list(evidence[evidence.shelf_names[3]])
            self.assert_same(answers.line_up(evidence, shelf[::-1]), shelf)
            books = self.books(evidence, 20)
            try:
                found = answers.line_up(evidence, books)
                self.assert_same(found, Rule(*rule).arranged(books))
            except Undecided as error:
                pair = [books[error.first], books[error.second]]
                self.assert_same(answers.order_of(evidence, *pair).word, "either")

    def test_numbering(self):
        for evidence, rule in SOUND:
            numbering = Numbering(evidence)
            number = numbering.number_of(Rule(*rule))
            self.assert_same(numbering.rule_at(number).terms, tuple(rule))
            self.assert_same(next(numbering.walk(number)).terms, tuple(rule))
            books = self.books(evidence, 10)
            for first, second in zip(books, books[1:]):
                shares = numbering.share(first, second) + numbering.share(second, first)
                self.assert_same(shares, 0 if first == second else numbering.total)
        for evidence, _ in UNSOUND:
            self.assert_same(Numbering(evidence).total, 0)

    def test_is_implied(self):
        for evidence, _ in SOUND:
            for name in evidence.shelf_names:
                self.assertIs(shortening.is_implied(evidence, list(evidence[name])), True)

    def test_spine(self):
        for evidence, _ in SOUND:
            places = shortening.spine(evidence)
            said = Evidence(evidence.catalog)
            for at, place in enumerate(places):
                said = said.with_books("p" + "abcdefghijklmnopqrstuvwxyz"[at], evidence.pair(place))
            self.assert_same(Numbering(said).total, Numbering(evidence).total)

    def test_shortest_and_scarcity(self):
        for evidence, _ in SOUND:
            rule = shortening.shortest(evidence)
            self.assertIs(evidence.explains(rule), True)
            paper = shortening.scarcity(evidence)
            self.assert_same(paper.bound, len(rule))
            self.assertIs(judging.judge_scarcity(evidence, paper), True)

    def test_no_rule(self):
        for evidence, _ in UNSOUND:
            book = (0,) * 8
            barrier = Family(evidence).find_barrier()
            for function, arguments in (
                (answers.order_of, (book, book)), (answers.line_up, ([book] * 40,)),
                (shortening.spine, ()), (shortening.scarcity, ()),
            ):
                with self.assertRaises(NoRule) as caught:
                    function(evidence, *arguments)
                self.assert_same(caught.exception.barrier.blocks, barrier.blocks)

    def test_blame_and_cull(self):
        for evidence, _ in SOUND:
            self.assert_same(culling.blame(evidence), list(evidence.all_spots()))
            self.assert_same(culling.cull(evidence, 2), ())
        for evidence, _ in UNSOUND:
            for spot in culling.blame(evidence):
                self.assertIs(Family(evidence, [spot]).sound, True)
            for most in range(3):
                self.assert_culled(evidence, most)

    def test_cull_with_many_spots_to_try(self):
        evidence = scattered_case()
        self.assertEqual(len(culling.cull(evidence, 1).children), 32)
        self.assert_culled(evidence, 2)

    def assert_culled(self, evidence, most):
        found = culling.cull(evidence, most)
        if isinstance(found, Refusal):
            self.assertIs(judging.judge_refusal(evidence, found, most), True)
        else:
            self.assertIs(Family(evidence, found).sound, True)

    def test_outcomes_and_plan(self):
        free, _ = bounds_case(0, 0)
        books = [tuple(int(at == mark) for mark in range(8)) for at in range(5)]
        self.assertEqual(len(asking.outcomes(free, books)), 120)
        self.assertEqual(len(asking.plan(free, books).arrangements()), 120)
        for evidence, _ in SOUND:
            groups = [self.books(evidence, 3)[:5] for _ in range(5)]
            found = asking.outcomes(evidence, groups[0])
            self.assertEqual(sum(many for _, many in found), Numbering(evidence).total)
            self.assertEqual(asking.best(evidence, *groups), 0)
            tree = asking.plan(evidence, groups[0])
            self.assertEqual(sorted(tree.arrangements()), [row for row, _ in found])

    def test_library(self):
        for evidence, _ in SOUND + UNSOUND:
            library = Library(evidence.catalog)
            library.run(*[("put", name, *evidence[name]) for name in evidence.shelf_names])
            self.assertEqual(library.evidence, evidence)
            for book in self.books(evidence, 5):
                library.watch(book, evidence[evidence.shelf_names[0]][0])
            for at in range(20):
                library.take(evidence.shelf_names[at], at)
            library.news()
            for _ in range(20):
                library.undo()
            self.assert_same(library.rules_left, Numbering(evidence).total)

    def test_notation(self):
        for evidence, _ in SOUND + UNSOUND:
            self.assertEqual(notation.read_evidence(notation.write_evidence(evidence)), evidence)
            self.assertEqual(len(notation.chart(evidence)), len(list(evidence.places())))


if __name__ == "__main__":
    unittest.main()
