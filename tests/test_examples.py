"""Point 65: the worked examples, each as the document writes it."""

import unittest

from support import Asserts


class WorkedExamples(Asserts, unittest.TestCase):

    def test_make_book(self):
        from shelfterms.catalog import Catalog
        catalog = Catalog("height", "year")
        self.assert_same(catalog.make_book(3, year=1990), (3, 1990))


if __name__ == "__main__":
    unittest.main()
