"""Points 62 and 63: write_evidence, read_evidence and chart."""

import itertools
import random
import unittest

from shelfterms.catalog import Catalog
from shelfterms.errors import InvalidText
from shelfterms.evidence import Evidence
from shelfterms.notation import chart, read_evidence, write_evidence
from support import CASES, Asserts, evidence_of, neighbours

FAR = 10 ** 12
TOP = "marks height year\nshelf top\n3 1990\n1 1995\nshelf low\n2 2"
# Lines that stand nowhere but ahead of all others.
NO_LINES = (
    "", " ", "shelf", "shelf ", "shelf  x", " shelf x", "shelf x ", "shelf x y", "shelf X",
    "shelf ?", "shelf x1", "shelf abcdefghijklm", "Shelf x", "shelfx", "x", "shelf x, y", "shelf\tx",
    "shelf 1", "shelf x_y", "marks height year", "marks a", "a b", "? ?", "shelf x\r",
    # These begin as books of two marks do.
    "1", "1 2 3", "1  2", " 1 2", "1 2 ", "  1 2", "1 2  ", "1\t2", "1,2", "1 2,", "(1, 2)", "1 b",
    "-0 1", "1 -0", "00 1", "1 00", "01 1", "1 01", "-01 1", "+1 1", "1 +1", "1.0 2", "1 2.", "- 1",
    "1 -", "--1 1", "1 1-", "1-1 1", "1_0 1", "1 1_0", "1e3 1", "0x1 1", "1 0b1", "True 1",
    "1 None", f"{FAR + 1} 1", f"1 {FAR + 1}", f"-{FAR + 1} 1", f"1 -{FAR + 1}",
    f"{10 ** 13} 1", f"1 -{10 ** 13}", "9" * 5000 + " 1", "1 -" + "9" * 5000, "0" * 5000 + " 1",
    "1 " + "0" * 4999 + "1", "-" * 5000 + " 1", "1 2\r", "\r1 2", "1 2\x00", "\xb2 1", "1 \xb3",
    "\u0661 1", "1 \u0967", "1 \uff11", "1\xa02", "1 2\x0c", "1\x0b2", "1\u20032",
)
NO_CATALOGS = (
    "", "marks", "marks ", " marks a", "marks  a", "marks a ", "marks a  b", "Marks a", "mark a",
    "marksa", "marks a a", "marks a b a", "marks A", "marks a1", "marks a,b", "marks ?", "marks a-b",
    "marks abcdefghijklm", "marks a b c d e f g h i", "marks\ta", "marks a\t", "marks a\r", "a",
    "shelf top", "1", "marks: a", "marks 1", "marks \xe9", "a marks", "marks a_b", "\n", "marks a.",
)


class Writing(Asserts, unittest.TestCase):

    def test_by_hand(self):
        evidence = Evidence.of(
            Catalog("height", "year"), top=[(3, 1990), (1, 1995)], low=[(2, 2)],
        )
        self.assert_same(write_evidence(evidence), TOP)
        self.assert_same(write_evidence(evidence=Evidence(Catalog("a"))), "marks a")
        evidence = Evidence.of(Catalog("a"), top=[], low=[(0,), (-5,)], mid=[])
        expected = "marks a\nshelf top\nshelf low\n0\n-5\nshelf mid"
        self.assert_same(write_evidence(evidence), expected)

    def test_bounds(self):
        evidence = Evidence.of(Catalog("abcdefghijkl", "b"), abcdefghijkl=[(FAR, -FAR), (0, 10)])
        expected = "marks abcdefghijkl b\nshelf abcdefghijkl\n1000000000000 -1000000000000\n0 10"
        self.assert_same(write_evidence(evidence), expected)


class Reading(Asserts, unittest.TestCase):

    def assert_read(self, text, evidence):
        found = read_evidence(text)
        self.assertIs(type(found), Evidence)
        self.assertEqual(found, evidence)
        self.assert_same(found.catalog.names, evidence.catalog.names)
        self.assert_same(found.shelf_names, evidence.shelf_names)
        for name in evidence.shelf_names:
            self.assert_same(found[name], evidence[name])

    def test_by_hand(self):
        self.assert_read(TOP, Evidence.of(
            Catalog("height", "year"), top=[(3, 1990), (1, 1995)], low=[(2, 2)],
        ))
        self.assert_read("marks a", Evidence(Catalog("a")))
        self.assert_read("marks a\nshelf a", Evidence.of(Catalog("a"), a=[]))
        self.assert_read("marks marks shelf\nshelf shelf\nshelf marks\n1 2", Evidence.of(
            Catalog("marks", "shelf"), shelf=[], marks=[(1, 2)],
        ))
        self.assert_same(read_evidence(text="marks a").shelf_names, ())

    def test_names_of_arguments(self):
        found = read_evidence("marks a\nshelf catalog\n1\nshelf cls\n2\nshelf self\n3")
        self.assert_same(found.shelf_names, ("catalog", "cls", "self"))
        self.assert_same(found["cls"], ((2,),))

    def test_bounds(self):
        found = read_evidence(f"marks a b\nshelf x\n{FAR} -{FAR}\n0 -1\n{FAR - 1} 1000")
        self.assert_same(found["x"], ((FAR, -FAR), (0, -1), (FAR - 1, 1000)))

    def test_there_and_back(self):
        chance = random.Random(28)
        for count in range(1, 9):
            for _ in range(20):
                evidence = Evidence(Catalog.numbered(count))
                for name in chance.sample(["top", "low", "mid", "x", "marks", "shelf"], 4):
                    books = [
                        tuple(chance.choice((0, 1, -1, 10, FAR, -FAR, chance.randint(-FAR, FAR)))
                              for _ in range(count))
                        for _ in range(chance.choice((0, 1, 3)))
                    ]
                    evidence = evidence.with_books(name, books)
                text = write_evidence(evidence)
                self.assert_read(text, evidence)
                self.assert_same(write_evidence(read_evidence(text)), text)

    def test_cases_there_and_back(self):
        for count, shelves, _ in CASES:
            if "?" not in shelves:
                evidence = evidence_of(count, shelves)
                self.assert_read(write_evidence(evidence), evidence)

    def assert_wrong(self, lines, at):
        self.assert_raises(InvalidText, {"at": at}, read_evidence, "\n".join(lines))

    def test_wrong_first_lines(self):
        for line in NO_CATALOGS:
            self.assert_raises(InvalidText, {"at": 1}, read_evidence, line)
            self.assert_wrong([line, "shelf top", "1"], 1)
            self.assert_wrong([line, "", "", "?"], 1)

    def test_the_empty_string(self):
        self.assert_raises(InvalidText, {"at": 1}, read_evidence, "")
        self.assert_raises(InvalidText, {"at": 1}, read_evidence, "\n")
        self.assert_raises(InvalidText, {"at": 1}, read_evidence, "\nmarks a")

    def test_wrong_lines_at_each_place(self):
        lines = ["marks height year", "shelf top", "1 2", "3 4", "shelf low", "shelf mid", "5 6"]
        for wrong in NO_LINES:
            for at in range(1, len(lines) + 1):
                self.assert_wrong([*lines[:at], wrong, *lines[at:]], at + 1)
            self.assert_wrong([*lines[:2], wrong, *lines[3:]], 3)
            self.assert_wrong([*lines[:6], wrong], 7)

    def test_the_first_of_two_wrong_lines(self):
        for first, second in itertools.product(NO_LINES[::3], NO_LINES[1::3]):
            self.assert_wrong(["marks a b", "shelf x", first, "1 2", second], 3)
            self.assert_wrong(["marks a b", first, second], 2)
        self.assert_wrong(["marks", "1"], 1)

    def test_a_newline_at_the_end(self):
        lines = TOP.split("\n")
        for many in range(1, len(lines) + 1):
            self.assert_wrong([*lines[:many], ""], many + 1)
            self.assert_wrong([*lines[:many], "", ""], many + 1)

    def test_a_shelf_twice(self):
        self.assert_wrong(["marks a", "shelf x", "shelf x"], 3)
        self.assert_wrong(["marks a", "shelf x", "1", "shelf y", "2", "shelf x", "3"], 6)
        self.assert_wrong(["marks a", "shelf x", "1", "shelf x", "shelf y", "shelf y"], 4)

    def test_a_book_ahead_of_all_shelves(self):
        self.assert_wrong(["marks a", "1"], 2)
        self.assert_wrong(["marks a", "1", "shelf x"], 2)
        self.assert_wrong(["marks a b", "1 2", "shelf x", "1 2"], 2)

    def test_the_number_of_integers(self):
        for count in range(1, 9):
            names = " ".join("abcdefgh"[:count])
            for many in range(1, 12):
                lines = [f"marks {names}", "shelf x", " ".join(["7"] * many), "shelf y"]
                if many == count:
                    self.assert_same(read_evidence("\n".join(lines))["x"], ((7,) * count,))
                else:
                    self.assert_wrong(lines, 3)

    def test_each_small_number(self):
        for number in range(-120, 121):
            self.assert_same(read_evidence(f"marks a\nshelf x\n{number}")["x"], ((number,),))


class Charts(Asserts, unittest.TestCase):

    def test_by_hand(self):
        evidence = Evidence.of(Catalog("height", "year"), top=[(3, 1990), (1, 1995), (2, 1995)])
        expected = ["top            0   1 ><", "top            1   2 <="]
        self.assert_same(chart(evidence), expected)
        self.assert_same(chart(evidence=Evidence(Catalog("a"))), [])
        self.assert_same(chart(Evidence.of(Catalog("a"), top=[(1,), (1,)])), [])

    def test_names_of_each_length(self):
        for length in range(1, 13):
            name = "abcdefghijkl"[:length]
            evidence = Evidence(Catalog("a")).with_books(name, [(1,), (2,)])
            lines = chart(evidence)
            self.assert_same(lines, [name + " " * (12 - length) + "   0   1 <"])

    def test_indexes_with_two_digits(self):
        books = [(at, -at) for at in range(40)]
        lines = chart(Evidence.of(Catalog("a", "b"), top=books))
        self.assertEqual(len(lines), 39)
        self.assert_same(lines[8:11], [
            "top            8   9 <>", "top            9  10 <>", "top           10  11 <>",
        ])
        self.assert_same(lines[38], "top           38  39 <>")

    def test_all_signs(self):
        for signs in itertools.product((-1, 0, 1), repeat=3):
            if any(signs):
                evidence = Evidence.of(Catalog("a", "b", "c"), x=[(5, 5, 5), tuple(
                    5 + sign for sign in signs
                )])
                written = "".join("<" if sign == 1 else ">" if sign else "=" for sign in signs)
                self.assert_same(chart(evidence), [f"x              0   1 {written}"])

    def test_cases(self):
        for count, shelves, _ in CASES:
            expected = []
            for name, i, j in neighbours(shelves):
                first, second = shelves[name][i], shelves[name][j]
                signs = "".join(
                    "<" if after > before else "=" if after == before else ">"
                    for before, after in zip(first, second)
                )
                expected.append(" ".join([
                    name.ljust(12), str(i).rjust(3), str(j).rjust(3), signs,
                ]))
            self.assert_same(chart(evidence_of(count, shelves)), expected)

    def test_a_new_list(self):
        evidence = Evidence.of(Catalog("a"), top=[(1,), (2,)])
        chart(evidence).append("x")
        self.assert_same(chart(evidence), ["top            0   1 <"])


if __name__ == "__main__":
    unittest.main()
