"""Points 21 and 64, and the default values, over the whole program."""

import unittest

from shelfterms import errors
from shelfterms.answers import (
    chain_paper, direction_paper, exit_paper, exits_of, line_up, mark_paper, need_paper, order_of,
    settle, slot_papers, slots,
)
from shelfterms.asking import best, outcomes, plan, worst
from shelfterms.catalog import Catalog
from shelfterms.culling import blame, cull
from shelfterms.evidence import Evidence
from shelfterms.family import Family
from shelfterms.judging import judge_barrier, judge_refusal, judge_rule
from shelfterms.library import Library
from shelfterms.notation import chart, read_evidence, write_evidence
from shelfterms.numbering import Numbering
from shelfterms.papers import Barrier
from shelfterms.rules import Rule
from shelfterms.shortening import is_implied, scarcity, shortest, spine
from support import Asserts, fitting_rules, full_rules, order_by, parts_of, shown, spots_of

TWO = Catalog("a", "b")
GOOD = Evidence.of(TWO, top=[(0, 0), (1, 0), (1, 1)])
BROKEN = GOOD.with_shelf("low", (0, 0), (0, 1), (0, 0), (1, 0), (0, 0))


def library():
    return Library(TWO)


def strict_library():
    found = library_with("top", (0, 0), (1, 0))
    found.strict = True
    return found


def library_with(name, *books):
    found = library()
    found.put(name, *books)
    return found


# For each error, calls that are to raise it.
WRONG_CALLS = {
    "InvalidCatalog": (
        lambda: Catalog(), lambda: Catalog("a", "a"), lambda: Catalog.numbered(9),
        lambda: Catalog(*["a"] * 9), lambda: Catalog("A"), lambda: Catalog.numbered(0),
    ),
    "UnknownMark": (lambda: TWO.index_of("c"), lambda: TWO.index_of("")),
    "InvalidBook": (
        lambda: TWO.make_book(1), lambda: GOOD.with_shelf("x", (1,)), lambda: line_up(GOOD, [1]),
        lambda: GOOD.with_question([None]), lambda: order_of(GOOD, (0, 0), 5),
        lambda: chain_paper(GOOD, [(0, 0), ()]), lambda: slots(GOOD, "top", (1,)),
        lambda: slot_papers(GOOD, "top", None), lambda: is_implied(GOOD, [0]),
        lambda: outcomes(GOOD, [()]), lambda: worst(GOOD, [()]), lambda: best(GOOD, [], [()]),
        lambda: plan(GOOD, [()]), lambda: Numbering(GOOD).share((0, 0), ()),
        lambda: library().put("x", ()), lambda: library_with("x").insert("x", 0, ()),
        lambda: library().watch((0, 0), ()), lambda: Evidence.of(TWO, x=[(1,)]),
        lambda: GOOD.with_books("x", [(1,)]), lambda: library().run(("put", "x", 1)),
    ),
    "InvalidRule": (
        lambda: Rule((0, 0)), lambda: Rule.listed([(8, 1)]), lambda: Rule.ascending(0, 0),
        lambda: Family(GOOD).is_beginning([(2, 1)]), lambda: Family(GOOD).complete([(0, 2)]),
    ),
    "InvalidTerm": (
        lambda: Family(GOOD).find_barrier([(2, 1)]), lambda: exit_paper(GOOD, [], [(0, 0)]),
        lambda: direction_paper(GOOD, 0, 0), lambda: exit_paper(BROKEN, [], [(0, 1), (0, 1)]),
    ),
    "InvalidMark": (
        lambda: Family(GOOD).open_terms([2]), lambda: Family(GOOD).reach([0, 0]),
        lambda: Family(GOOD).is_feasible([-1]), lambda: Family(GOOD).least_sets(2),
        lambda: Family(GOOD).ahead_of(2), lambda: Family(GOOD).directions(2),
        lambda: exits_of(GOOD, [2]), lambda: exit_paper(BROKEN, [2], [None]),
        lambda: mark_paper(GOOD, 0, 0), lambda: direction_paper(GOOD, 2, 0),
        lambda: need_paper(BROKEN, 2),
    ),
    "InvalidText": (
        lambda: Rule.read(TWO, "c asc"), lambda: read_evidence(""), lambda: read_evidence("marks a\n"),
    ),
    "Unsorted": (lambda: Rule((0, 1)).merged([(0, 0)], [(1, 0), (0, 0)]),),
    "InvalidName": (
        lambda: GOOD.with_shelf("?"), lambda: GOOD.with_books("A", [None]),
        lambda: Evidence.of(TWO, a1=[]), lambda: library().put("?"),
    ),
    "DuplicateShelf": (
        lambda: GOOD.with_shelf("top", 5), lambda: GOOD + GOOD, lambda: library_with("x").put("x"),
        lambda: GOOD.with_question([]).with_question([5]),
    ),
    "UnknownShelf": (
        lambda: GOOD["low"], lambda: GOOD.without_shelf("?"), lambda: slots(BROKEN, "x", 5),
        lambda: slot_papers(GOOD, "x", 5), lambda: library().drop("x"),
        lambda: library().take("x", 0), lambda: library().insert("x", 0, 5),
    ),
    "UnlikeCatalogs": (lambda: GOOD + Evidence(Catalog("a")), lambda: GOOD + Evidence(
        Catalog("b", "a")
    )),
    "InvalidSpot": (
        lambda: list(GOOD.places([("top", 3)])), lambda: Family(GOOD, [None]),
        lambda: settle(GOOD, [("x", 0)]), lambda: judge_rule(GOOD, Rule(), [5]),
        lambda: judge_barrier(GOOD, Barrier((9,), (), ()), [5]),
    ),
    "InvalidPlace": (lambda: GOOD.pair(("top", 1, 1)), lambda: GOOD.step(None)),
    "InvalidBeginning": (lambda: Family(GOOD).complete([(0, -1)]),),
    "NoRule": (
        lambda: Family(BROKEN).complete(), lambda: Family(BROKEN).ahead_of(0),
        lambda: Family(BROKEN).directions(0), lambda: order_of(BROKEN, (0, 0), (0, 0)),
        lambda: chain_paper(BROKEN, [(0, 0), (0, 0)]), lambda: slots(BROKEN, "top", (0, 0)),
        lambda: exits_of(BROKEN, []), lambda: exit_paper(BROKEN, [], []),
        lambda: mark_paper(BROKEN, 0, 1), lambda: direction_paper(BROKEN, 0, 1),
        lambda: need_paper(BROKEN, 0), lambda: line_up(BROKEN, []), lambda: spine(BROKEN),
        lambda: is_implied(BROKEN, []), lambda: shortest(BROKEN), lambda: scarcity(BROKEN),
        lambda: outcomes(BROKEN, []), lambda: worst(BROKEN, []), lambda: best(BROKEN),
        lambda: plan(BROKEN, []), lambda: strict_library().put("x", (1, 0), (0, 0)),
    ),
    "Undecided": (lambda: line_up(GOOD, [(0, 0), (0, 1), (1, 0)]),),
    "OutOfRange": (
        lambda: Numbering(BROKEN).rule_at(0), lambda: list(Numbering(GOOD).walk(-1)),
        lambda: cull(GOOD, 3), lambda: library_with("x").take("x", 0),
        lambda: library_with("x").insert("x", 1, 5), lambda: cull(BROKEN, -1),
    ),
    "NotFitting": (
        lambda: Numbering(GOOD).number_of(Rule()), lambda: Numbering(BROKEN).number_of(Rule((7, 1))),
    ),
    "InvalidDeed": (lambda: library().run(None), lambda: library().probe(("put",))),
    "NothingToUndo": (lambda: library().undo(), lambda: strict_library().undo() or library().undo()),
    "NothingToRedo": (lambda: library().redo(), lambda: library_with("x").redo()),
    "InvalidSetting": (
        lambda: library().set_strict(1), lambda: setattr(library(), "strict", None),
    ),
}


class Errors(unittest.TestCase):

    def test_each_error_is_raised_by_a_wrong_call(self):
        words = [
            word for word, value in vars(errors).items()
            if isinstance(value, type) and word != "ShelfError"
        ]
        self.assertEqual(sorted(WRONG_CALLS), sorted(words))
        for word, calls in WRONG_CALLS.items():
            for at, call in enumerate(calls):
                with self.subTest(word, at=at):
                    with self.assertRaises(ValueError) as caught:
                        call()
                    self.assertIs(type(caught.exception), getattr(errors, word))
                    self.assertIsInstance(caught.exception, errors.ShelfError)
                    for other in words:
                        expected = other == word
                        found = isinstance(caught.exception, getattr(errors, other))
                        self.assertIs(found, expected)


class QuestionShelves(Asserts, unittest.TestCase):
    """A question shelf is a shelf like any other."""

    SHELVES = {"top": [(0, 0), (1, 0), (1, 1)], "?": [(1, 1), (0, 2), (0, 3), (2, 4)]}
    LAST = {"?": SHELVES["?"], "top": SHELVES["top"]}

    def evidence(self):
        return GOOD.with_question(self.SHELVES["?"])

    def test_spots_and_places(self):
        evidence = self.evidence()
        self.assert_same(list(evidence.all_spots()), spots_of(self.SHELVES))
        places = [
            ("top", 0, 1), ("top", 1, 2), ("?", 0, 1), ("?", 1, 2), ("?", 2, 3),
        ]
        self.assert_same(list(evidence.places()), places)
        places[2:4] = [("?", 0, 2)]
        self.assert_same(list(evidence.places([("?", 1)])), places)
        self.assert_same(evidence.pair(("?", 0, 3)), ((1, 1), (2, 4)))
        self.assert_same(evidence.step(("?", 0, 1)), (-1, 1))
        self.assert_same(evidence["?"], tuple(self.SHELVES["?"]))
        self.assertIs("?" in evidence, True)
        self.assertEqual(evidence.without_shelf("?"), GOOD)

    def test_fits_and_fault(self):
        evidence = self.evidence()
        for terms in full_rules(2):
            rule = Rule(*terms)
            wrong = [
                place for place in evidence.places() if order_by(terms, *evidence.pair(place)) == 1
            ]
            self.assert_same(evidence.fault(rule), wrong[0] if wrong else None)
            self.assertIs(evidence.fits(rule), not wrong)
            self.assertIs(judge_rule(evidence, rule), not wrong)
            self.assertIs(judge_rule(evidence, rule, [("?", 0), ("?", 3)]), not any(
                order_by(terms, first, second) == 1
                for row in (self.SHELVES["top"], self.SHELVES["?"][1:3])
                for first, second in zip(row, row[1:])
            ))

    def test_settle_and_numbering(self):
        evidence = self.evidence()
        rules = fitting_rules(2, self.SHELVES)
        self.assert_same(rules, [((1, 1), (0, 1))])
        self.assert_same(shown(settle(evidence)), ("Rule", rules[0]))
        self.assert_same(Numbering(evidence).total, 1)
        self.assert_same(Numbering(GOOD).total, 2)
        self.assert_same(outcomes(evidence, [(5, 0), (0, 1)]), [((0, 1), 1)])

    def test_barriers_and_blame(self):
        evidence = GOOD.with_question([(0, 1), (0, 0), (3, 0)])
        barrier = settle(evidence)
        self.assert_same(parts_of(barrier), ((0,), (), (
            ((1, 1), ("?", 0, 1)), ((1, -1), ("top", 1, 2)),
        )))
        self.assertIs(judge_barrier(evidence, barrier), True)
        self.assertIs(judge_barrier(evidence, barrier, [("?", 1)]), False)
        self.assertIs(judge_barrier(GOOD, barrier), False)
        self.assert_same(blame(evidence), [("top", 1), ("top", 2), ("?", 0), ("?", 1)])
        refusal = cull(evidence, 0)
        self.assertIs(judge_refusal(evidence, refusal, 0), True)
        self.assert_same(refusal.told(TWO)[-2:], [
            "  block: b asc ? 0 1", "  block: b desc top 1 2",
        ])

    def test_chart(self):
        evidence = self.evidence()
        self.assert_same(chart(evidence)[2:], [
            "?" + " " * 11 + "   0   1 ><", "?" + " " * 11 + "   1   2 =<",
            "?" + " " * 11 + "   2   3 <<",
        ])

    def test_combining(self):
        question = Evidence(TWO).with_question(self.SHELVES["?"])
        self.assertEqual(GOOD + question, self.evidence())
        self.assert_same((question + GOOD).shelf_names, ("?", "top"))
        self.assert_same(shown(settle(question + GOOD)), shown(settle(self.evidence())))
        with self.assertRaises(errors.DuplicateShelf) as caught:
            self.evidence() + question
        self.assert_same(caught.exception.name, "?")

    def test_a_question_shelf_may_be_the_first(self):
        evidence = Evidence(TWO).with_question(self.SHELVES["?"]).with_books(
            "top", self.SHELVES["top"],
        )
        self.assert_same(list(evidence.all_spots()), spots_of(self.LAST))
        self.assert_same(spine(evidence), [("?", 0, 1), ("top", 0, 1)])
        self.assert_same(spine(self.evidence()), [("top", 0, 1), ("?", 0, 1)])


class DefaultValues(Asserts, unittest.TestCase):
    """Each argument with a default value may be left out, and passed by place or by name."""

    def assert_alike(self, function, first, word, default, other):
        """Fail unless the default counts, by itself, by place and by name."""
        plain = function(*first)
        self.assert_same(function(*first, default), plain)
        self.assert_same(function(*first, **{word: default}), plain)
        self.assert_same(function(*first, **{word: other}), function(*first, other))

    def test_spots(self):
        def places(evidence, *spots, **named):
            return list(evidence.places(*spots, **named))

        def family(evidence, *spots, **named):
            return parts_of(Family(evidence, *spots, **named).find_barrier())

        def settled(evidence, *spots, **named):
            return shown(settle(evidence, *spots, **named))

        rule = Rule((0, 1), (1, 1))
        barrier = Family(BROKEN).find_barrier()
        for default in ((), []):
            for spots in ([("top", 0)], [("low", 0), ("low", 1)]):
                self.assert_alike(places, (BROKEN,), "spots", default, spots)
                self.assert_alike(family, (BROKEN,), "spots", default, spots)
            for spots in ([("low", 1)], [("low", 1), ("low", 3)]):
                self.assert_alike(settled, (BROKEN,), "spots", default, spots)
                self.assert_alike(judge_rule, (BROKEN, rule), "spots", default, spots)
                self.assert_alike(judge_barrier, (BROKEN, barrier), "spots", default, spots)
        self.assertIs(judge_rule(BROKEN, rule), False)
        self.assertIs(judge_rule(BROKEN, rule, spots=[("low", 1), ("low", 3)]), True)

    def test_family(self):
        def beginning(*terms, **named):
            return Family(GOOD).complete(*terms, **named).terms

        def barrier(*exits, **named):
            found = Family(BROKEN).find_barrier(*exits, **named)
            return None if found is None else parts_of(found)

        for default in ((), []):
            self.assert_alike(Family(GOOD).open_terms, (), "used", default, [0])
            self.assert_alike(Family(GOOD).reach, (), "barred", default, [0])
            self.assert_alike(beginning, (), "terms", default, [(1, 1)])
            self.assert_alike(barrier, (), "exits", default, [(0, 1)])

    def test_walk_and_cull(self):
        def walk(*start, **named):
            return [rule.terms for rule in Numbering(GOOD).walk(*start, **named)]

        def culled(evidence, *most, **named):
            return cull(evidence, *most, **named).told(TWO)

        self.assert_alike(walk, (), "start", 0, 1)
        self.assert_alike(culled, (BROKEN,), "most", 1, 0)
        self.assert_alike(cull, (GOOD,), "most", 1, 2)


class BeyondTheLimits(Asserts, unittest.TestCase):
    """Somewhat beyond a limit no error is raised."""

    def test_more_books_and_shelves(self):
        books = [(0, at) for at in range(50)]
        evidence = Evidence(TWO)
        for name in "abcdefghijklmnopqrstuvwxyz":
            evidence = evidence.with_books(name, books)
        self.assert_same(settle(evidence).terms, ((0, 1), (1, 1)))
        self.assert_same(Numbering(evidence).total, 4)
        self.assert_same(len(blame(evidence)), 26 * 50)
        self.assertEqual(read_evidence(write_evidence(evidence)), evidence)

    def test_rows_of_fewer_books(self):
        for books in ([], [(1, 1)]):
            self.assertIsInstance(chain_paper(GOOD, books), (Rule, Barrier))

    def test_all_marks_inside(self):
        self.assert_same(exits_of(GOOD, [0, 1]), [])
        self.assertIsInstance(exit_paper(GOOD, [1, 0], [(0, 1)]), (Rule, Barrier))

    def test_more_than_five_books(self):
        books = [(at // 3, at % 3) for at in range(7)]
        self.assertEqual(sum(many for _, many in outcomes(GOOD, books)), 2)
        tree = plan(Evidence(TWO), books)
        for terms in full_rules(2):
            row = tree.follow(Rule(*terms))
            self.assertEqual([books[at] for at in row], Rule(*terms).arranged(books))


if __name__ == "__main__":
    unittest.main()
