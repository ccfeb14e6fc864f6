"""Point 65: the worked examples, each as the document writes it."""

import unittest

from shelfterms.errors import InvalidText
from support import Asserts


class WorkedExamples(Asserts, unittest.TestCase):

    def test_make_book(self):
        from shelfterms.catalog import Catalog
        catalog = Catalog("height", "year")
        self.assert_same(catalog.make_book(3, year=1990), (3, 1990))

    def test_rule_written(self):
        from shelfterms.rules import Rule
        from shelfterms.catalog import Catalog
        text = Rule((1, -1), (0, 1)).written(Catalog("height", "year"))
        self.assert_same(text, "year desc, height asc")

    def test_rule_read(self):
        from shelfterms.rules import Rule
        from shelfterms.catalog import Catalog
        with self.assertRaises(InvalidText) as caught:
            Rule.read(Catalog("height", "year"), "year desc,height asc")
        self.assert_same(caught.exception.at, 1)

    def test_open_terms(self):
        from shelfterms.catalog import Catalog
        from shelfterms.evidence import Evidence
        from shelfterms.family import Family
        evidence = Evidence.of(Catalog("height", "year"), top=[(3, 1990), (1, 1995), (2, 1995)])
        self.assert_same(Family(evidence).open_terms(), [(1, 1)])


if __name__ == "__main__":
    unittest.main()
