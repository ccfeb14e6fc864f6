"""Point 65: the worked examples, each as the document writes it."""

import unittest

from shelfterms.errors import InvalidText, Undecided
from support import Asserts


class WorkedExamples(Asserts, unittest.TestCase):

    def test_make_book(self):
        from shelfterms.catalog import Catalog
        catalog = Catalog("height", "year")
        self.assert_same(catalog.make_book(3, year=1990), (3, 1990))

    def test_rule_written(self):
        from shelfterms.rules import Rule
        from shelfterms.catalog import Catalog
        text = Rule((1, -1), (0, 1)).written(Catalog("height", "year"))
        self.assert_same(text, "year desc, height asc")

    def test_rule_read(self):
        from shelfterms.rules import Rule
        from shelfterms.catalog import Catalog
        with self.assertRaises(InvalidText) as caught:
            Rule.read(Catalog("height", "year"), "year desc,height asc")
        self.assert_same(caught.exception.at, 1)

    def test_open_terms(self):
        from shelfterms.catalog import Catalog
        from shelfterms.evidence import Evidence
        from shelfterms.family import Family
        evidence = Evidence.of(Catalog("height", "year"), top=[(3, 1990), (1, 1995), (2, 1995)])
        self.assert_same(Family(evidence).open_terms(), [(1, 1)])

    def test_settle(self):
        from shelfterms.catalog import Catalog
        from shelfterms.evidence import Evidence
        from shelfterms.answers import settle
        evidence = Evidence.of(Catalog("height", "year"), top=[(3, 1990), (1, 1995), (2, 1995)])
        self.assert_same(settle(evidence).terms, ((1, 1), (0, 1)))

    def test_order_of(self):
        from shelfterms.catalog import Catalog
        from shelfterms.evidence import Evidence
        from shelfterms.answers import order_of
        evidence = Evidence.of(Catalog("height", "year"), top=[(3, 1990), (1, 1995), (2, 1995)])
        order = order_of(evidence, (5, 1990), (1, 1995))
        self.assert_same([order.word, order.after.told(evidence.catalog)], ["before", [
            "barrier", "inside:", "exit: height desc", "exit: year asc",
            "block: height asc top 0 1", "block: year desc top 0 1",
        ]])

    def test_slots(self):
        from shelfterms.catalog import Catalog
        from shelfterms.evidence import Evidence
        from shelfterms.answers import slots
        evidence = Evidence.of(Catalog("height", "year"), top=[(3, 1990), (1, 1995), (2, 1995)])
        self.assert_same(slots(evidence, "top", (2, 1994)), [1])

    def test_line_up(self):
        from shelfterms.catalog import Catalog
        from shelfterms.evidence import Evidence
        from shelfterms.answers import line_up
        with self.assertRaises(Undecided) as caught:
            line_up(Evidence(Catalog("height", "year")), [(1, 5), (2, 3)])
        self.assert_same((caught.exception.first, caught.exception.second), (0, 1))

    def test_blocks(self):
        from shelfterms.catalog import Catalog
        from shelfterms.evidence import Evidence
        from shelfterms.answers import settle
        evidence = Evidence.of(Catalog("a"), top=[(1,), (2,), (1,)])
        self.assert_same(settle(evidence).blocks, (
            ((0, 1), ("top", 1, 2)), ((0, -1), ("top", 0, 1)),
        ))

    def test_numbering(self):
        from shelfterms.catalog import Catalog
        from shelfterms.evidence import Evidence
        from shelfterms.numbering import Numbering
        numbering = Numbering(Evidence(Catalog("a", "b")))
        self.assert_same([numbering.total, numbering.rule_at(3).terms], [8, ((0, -1), (1, -1))])

    def test_blame(self):
        from shelfterms.catalog import Catalog
        from shelfterms.evidence import Evidence
        from shelfterms.culling import blame
        evidence = Evidence.of(Catalog("a"), top=[(1,), (2,), (1,)])
        self.assert_same(blame(evidence), [("top", 0), ("top", 1), ("top", 2)])

    def test_outcomes(self):
        from shelfterms.catalog import Catalog
        from shelfterms.evidence import Evidence
        from shelfterms.asking import outcomes
        found = outcomes(Evidence(Catalog("a")), [(2,), (1,)])
        self.assert_same(found, [((0, 1), 1), ((1, 0), 1)])

    def test_chart(self):
        from shelfterms.catalog import Catalog
        from shelfterms.evidence import Evidence
        from shelfterms.notation import chart
        evidence = Evidence.of(Catalog("height", "year"), top=[(3, 1990), (1, 1995), (2, 1995)])
        self.assert_same(chart(evidence), ["top            0   1 ><", "top            1   2 <="])

    def test_read_evidence(self):
        from shelfterms.notation import read_evidence
        with self.assertRaises(InvalidText) as caught:
            read_evidence("marks a\nshelf top\n01")
        self.assert_same(caught.exception.at, 3)

    def test_library(self):
        from shelfterms.catalog import Catalog
        from shelfterms.library import Library
        library = Library(Catalog("a"))
        library.put("top", (1,), (2,))
        self.assert_same(library.rules_left, 1)


if __name__ == "__main__":
    unittest.main()
