"""Points 35 and 36, and of the points 44, 51 and 53 the parts and the lines of the papers."""

import itertools
import random
import unittest

from shelfterms.catalog import Catalog
from shelfterms.family import Family
from shelfterms.papers import Barrier, Gate, Paper, Refusal, Scarcity
from shelfterms.steps import good_terms, step_between
from support import CASES, Asserts, agree, evidence_of

CATALOG = Catalog("height", "year", "a", "abcdefghijkl")
OTHER = Catalog("p", "q", "r", "s")
KINDS = {
    Paper: "paper", Barrier: "barrier", Gate: "gate", Refusal: "refusal", Scarcity: "scarcity",
}

PLACE = ("top", 0, 1)
FAR = ("abcdefghijkl", 38, 39)
QUESTION = ("?", 0, 2)
WIDE = Barrier(
    (0, 3), ((2, 1), (2, -1)), (((1, 1), PLACE), ((1, -1), FAR), ((2, 1), QUESTION)),
)
WIDE_LINES = [
    "barrier", "inside: height abcdefghijkl", "exit: a asc", "exit: a desc",
    "block: year asc top 0 1", "block: year desc abcdefghijkl 38 39", "block: a asc ? 0 2",
]
EMPTY = Barrier((), (), ())
GATE = Gate((1,), ((2, -1),), (((2, 1), PLACE), ((0, -1), FAR)), (0, 1, 2), QUESTION)
GATE_LINES = [
    "gate", "inside: year", "exit: a desc", "block: a asc top 0 1",
    "block: height desc abcdefghijkl 38 39", "among: height year a", "open: ? 0 2",
]
BARE_GATE = Gate((), (), (), (), ("x", 3, 7))
BARE_GATE_LINES = ["gate", "inside:", "among:", "open: x 3 7"]


def indented(lines):
    return ["  " + line for line in lines]


class Kinds(Asserts, unittest.TestCase):

    def test_kind(self):
        for paper, kind in KINDS.items():
            self.assert_same(paper.KIND, kind)
        for paper in (Paper(), WIDE, EMPTY, GATE, Refusal(EMPTY, ()), Scarcity(0, ())):
            self.assert_same(paper.KIND, KINDS[type(paper)])

    def test_family_of_classes(self):
        above = {
            Paper: (Paper,), Barrier: (Barrier, Paper), Gate: (Gate, Barrier, Paper),
            Refusal: (Refusal, Paper), Scarcity: (Scarcity, Paper),
        }
        for paper, other in itertools.product(KINDS, repeat=2):
            self.assertIs(issubclass(paper, other), other in above[paper])


class Attributes(Asserts, unittest.TestCase):

    def assert_parts(self, paper, **parts):
        for name, part in parts.items():
            self.assertIs(getattr(paper, name), part)

    def test_barrier(self):
        for inside, exits, blocks in (
            ((), (), ()), ((0, 1), ((2, 1),), (((2, -1), PLACE),)),
            ((5, -3), ((9, 7),), (((0, 0), ("", -1, 10 ** 20)),)),
        ):
            paper = Barrier(inside, exits, blocks)
            self.assert_parts(paper, inside=inside, exits=exits, blocks=blocks)
            paper = Barrier(blocks=blocks, inside=inside, exits=exits)
            self.assert_parts(paper, inside=inside, exits=exits, blocks=blocks)

    def test_gate(self):
        inside, exits, blocks, among = (1,), ((0, 1),), (((0, -1), PLACE),), (0, 1)
        paper = Gate(inside, exits, blocks, among, FAR)
        self.assert_parts(
            paper, inside=inside, exits=exits, blocks=blocks, among=among, place=FAR,
        )
        paper = Gate(place=FAR, among=among, blocks=blocks, exits=exits, inside=inside)
        self.assert_parts(
            paper, inside=inside, exits=exits, blocks=blocks, among=among, place=FAR,
        )

    def test_refusal(self):
        children = ((("top", 0), Refusal(EMPTY, ())), (("top", 1), Refusal(WIDE, ())))
        self.assert_parts(Refusal(WIDE, children), barrier=WIDE, children=children)
        self.assert_parts(Refusal(children=(), barrier=EMPTY), barrier=EMPTY, children=())

    def test_scarcity(self):
        gates = (GATE, BARE_GATE)
        self.assert_parts(Scarcity(2, gates), bound=2, gates=gates)
        self.assert_parts(Scarcity(gates=(), bound=0), bound=0, gates=())


class Told(Asserts, unittest.TestCase):

    def assert_told(self, paper, lines, catalog=CATALOG):
        first = paper.told(catalog)
        self.assert_same(first, lines)
        first.append("more")
        first[0] = "other"
        self.assert_same(paper.told(catalog=catalog), lines)

    def test_paper(self):
        self.assert_told(Paper(), ["paper"])
        self.assert_told(Paper(), ["paper"], OTHER)

    def test_barrier(self):
        self.assert_told(EMPTY, ["barrier", "inside:"])
        self.assert_told(WIDE, WIDE_LINES)
        self.assert_told(Barrier((2,), (), ()), ["barrier", "inside: a"])
        self.assert_told(Barrier((), ((3, -1),), ()), ["barrier", "inside:", "exit: abcdefghijkl desc"])
        self.assert_told(
            Barrier((), (), (((0, 1), ("low", 7, 12)),)),
            ["barrier", "inside:", "block: height asc low 7 12"],
        )

    def test_the_order_of_the_tuples(self):
        paper = Barrier(
            (3, 0, 2, 0), ((2, -1), (0, 1), (2, 1), (0, 1)),
            (((3, -1), ("low", 5, 4)), ((1, 1), ("x", -3, 10 ** 20)), ((3, -1), ("", 0, 0))),
        )
        self.assert_told(paper, [
            "barrier", "inside: abcdefghijkl height a height", "exit: a desc",
            "exit: height asc", "exit: a asc", "exit: height asc",
            "block: abcdefghijkl desc low 5 4",
            "block: year asc x -3 100000000000000000000", "block: abcdefghijkl desc  0 0",
        ])

    def test_the_catalog_decides_the_names(self):
        self.assert_told(WIDE, [
            "barrier", "inside: p s", "exit: r asc", "exit: r desc", "block: q asc top 0 1",
            "block: q desc abcdefghijkl 38 39", "block: r asc ? 0 2",
        ], OTHER)
        self.assert_told(GATE, [
            "gate", "inside: q", "exit: r desc", "block: r asc top 0 1",
            "block: p desc abcdefghijkl 38 39", "among: p q r", "open: ? 0 2",
        ], OTHER)

    def test_gate(self):
        self.assert_told(GATE, GATE_LINES)
        self.assert_told(BARE_GATE, BARE_GATE_LINES)
        self.assert_told(
            Gate((0, 1, 2, 3), (), (), (3, 1), ("low", -1, -2)),
            ["gate", "inside: height year a abcdefghijkl", "among: abcdefghijkl year", "open: low -1 -2"],
        )

    def test_refusal(self):
        self.assert_told(Refusal(EMPTY, ()), ["refusal", "  barrier", "  inside:"])
        self.assert_told(Refusal(WIDE, ()), ["refusal", *indented(WIDE_LINES)])
        self.assert_told(Refusal(GATE, ()), ["refusal", *indented(GATE_LINES)])

    def test_refusal_with_children(self):
        children = (
            (("top", 3), Refusal(WIDE, ())), (("low", 0), Refusal(EMPTY, ())),
            (("?", -4), Refusal(EMPTY, ())), (("top", 3), Refusal(EMPTY, ())),
        )
        self.assert_told(Refusal(EMPTY, children), [
            "refusal", "  barrier", "  inside:",
            "  without: top 3", "  refusal", *indented(indented(WIDE_LINES)),
            "  without: low 0", "  refusal", "    barrier", "    inside:",
            "  without: ? -4", "  refusal", "    barrier", "    inside:",
            "  without: top 3", "  refusal", "    barrier", "    inside:",
        ])

    def test_refusals_in_refusals(self):
        paper, lines = Refusal(EMPTY, ()), ["refusal", "  barrier", "  inside:"]
        for depth in range(6):
            paper = Refusal(WIDE, ((("top", depth), paper),))
            lines = [
                "refusal", *indented(WIDE_LINES), f"  without: top {depth}", *indented(lines),
            ]
            self.assert_told(paper, lines)

    def test_scarcity(self):
        self.assert_told(Scarcity(0, ()), ["scarcity", "terms: 0"])
        self.assert_told(Scarcity(12, ()), ["scarcity", "terms: 12"])
        self.assert_told(Scarcity(-1, ()), ["scarcity", "terms: -1"])
        self.assert_told(
            Scarcity(1, (BARE_GATE,)), ["scarcity", "terms: 1", *indented(BARE_GATE_LINES)],
        )
        self.assert_told(Scarcity(3, (GATE, BARE_GATE, GATE)), [
            "scarcity", "terms: 3", *indented(GATE_LINES), *indented(BARE_GATE_LINES),
            *indented(GATE_LINES),
        ])


ALL_TERMS = [(mark, direction) for mark in range(4) for direction in (1, -1)]


def random_barrier(chance):
    """Return a barrier that has the form of point 34, about four marks."""
    inside = tuple(mark for mark in range(4) if chance.randrange(2))[:3]
    outside = [term for term in ALL_TERMS if term[0] not in inside]
    exits = tuple(term for term in outside if chance.randrange(3) == 0)
    blocks = tuple(
        (term, (chance.choice(("top", "low")), chance.randrange(5), chance.randrange(5, 9)))
        for term in outside if term not in exits
    )
    return Barrier(inside, exits, blocks)


def parts_of(barrier):
    return (barrier.inside, barrier.exits, barrier.blocks)


def combined(first, second):
    """Return the parts of the combination, term by term, as point 35 says."""
    inside = tuple(mark for mark in range(4) if mark in first.inside and mark in second.inside)
    exits, blocks = (), ()
    for term in ALL_TERMS:
        if term[0] in inside:
            continue
        places = [place for one in (first, second) for other, place in one.blocks if other == term]
        if places:
            blocks = (*blocks, (term, places[0]))
        else:
            exits = (*exits, term)
    return (inside, exits, blocks)


class Combining(Asserts, unittest.TestCase):

    def assert_combined(self, first, second):
        before = (parts_of(first), parts_of(second))
        result = first & second
        self.assertIs(type(result), Barrier)
        self.assert_same(parts_of(result), combined(first, second))
        self.assert_same((parts_of(first), parts_of(second)), before)
        return result

    def test_by_hand(self):
        first = Barrier((0, 1), ((2, -1),), (((2, 1), ("top", 0, 1)), ))
        second = Barrier(
            (1,), ((0, 1), (2, 1), (2, -1)), (((0, -1), ("low", 3, 4)),),
        )
        expected = ((1,), ((0, 1), (2, -1)), (((0, -1), ("low", 3, 4)), ((2, 1), ("top", 0, 1))))
        self.assert_same(parts_of(first & second), expected)
        self.assert_same(parts_of(second & first), expected)

    def test_the_block_of_the_first(self):
        blocks = [
            tuple((term, (name, at, at + 1)) for at, term in enumerate(ALL_TERMS))
            for name in ("top", "low")
        ]
        first, second = Barrier((), (), blocks[0]), Barrier((), (), blocks[1])
        self.assert_same(parts_of(first & second), ((), (), blocks[0]))
        self.assert_same(parts_of(second & first), ((), (), blocks[1]))

    def test_an_exit_of_one_that_the_other_blocks(self):
        for blocked in ALL_TERMS:
            rest = tuple(term for term in ALL_TERMS if term != blocked)
            first = Barrier((), tuple(ALL_TERMS), ())
            second = Barrier((), rest, ((blocked, PLACE),))
            expected = ((), rest, ((blocked, PLACE),))
            self.assert_same(parts_of(first & second), expected)
            self.assert_same(parts_of(second & first), expected)

    def test_what_neither_blocks_is_an_exit(self):
        first = Barrier((0, 1, 2), ((3, 1), (3, -1)), ())
        second = Barrier((1, 3), ((0, -1), (2, 1)), (((0, 1), PLACE), ((2, -1), FAR)))
        expected = (
            (1,), ((0, -1), (2, 1), (3, 1), (3, -1)), (((0, 1), PLACE), ((2, -1), FAR)),
        )
        self.assert_same(parts_of(first & second), expected)
        self.assert_same(parts_of(second & first), expected)

    def test_nothing_inside_both(self):
        first = Barrier((0,), tuple(ALL_TERMS[2:]), ())
        second = Barrier((1, 2, 3), ((0, -1),), (((0, 1), PLACE),))
        expected = ((), tuple(ALL_TERMS[1:]), (((0, 1), PLACE),))
        self.assert_same(parts_of(first & second), expected)
        self.assert_same(parts_of(second & first), expected)

    def test_itself(self):
        chance = random.Random(35)
        for _ in range(100):
            barrier = random_barrier(chance)
            result = self.assert_combined(barrier, barrier)
            self.assertIsNot(result, barrier)
            self.assert_same(parts_of(result), parts_of(barrier))

    def test_two(self):
        chance = random.Random(36)
        for _ in range(1000):
            self.assert_combined(random_barrier(chance), random_barrier(chance))

    def test_three_from_either_side(self):
        chance = random.Random(37)
        for _ in range(500):
            first, second, third = [random_barrier(chance) for _ in range(3)]
            left = self.assert_combined(self.assert_combined(first, second), third)
            right = self.assert_combined(first, self.assert_combined(second, third))
            self.assert_same(parts_of(left), parts_of(right))

    def test_the_result_is_told(self):
        first = Barrier((0, 1, 2), ((3, 1),), (((3, -1), PLACE),))
        second = Barrier((0, 1, 3), ((2, -1),), (((2, 1), FAR),))
        self.assert_same((first & second).told(CATALOG), [
            "barrier", "inside: height year", "exit: a desc", "exit: abcdefghijkl asc",
            "block: a asc abcdefghijkl 38 39", "block: abcdefghijkl desc top 0 1",
        ])

    def test_barriers_that_are_found(self):
        chance = random.Random(38)
        for count, shelves, absent in CASES:
            family = Family(evidence_of(count, shelves), absent)
            terms = [(mark, direction) for mark in range(count) for direction in (1, -1)]
            found = []
            for _ in range(4):
                exits = [term for term in terms if chance.randrange(2)]
                barrier = family.find_barrier(exits)
                if barrier is not None:
                    found.append(barrier)
            for first, second in itertools.product(found, repeat=2):
                self.assert_is_barrier(first & second, count, shelves)

    def test_a_row_of_books(self):
        rows = 0
        for count, shelves, absent in CASES[:120]:
            family = Family(evidence_of(count, shelves), absent)
            books = sorted({book for row in shelves.values() for book in row})[:9]
            surely = {}
            for first, second in itertools.permutations(books, 2):
                barrier = family.find_barrier(good_terms(step_between(first, second)))
                if barrier is not None and agree(first, second, barrier.inside):
                    surely[first, second] = barrier
            for (first, second), (third, last) in itertools.product(surely, repeat=2):
                if second == third:
                    row = surely[first, second] & surely[third, last]
                    good = good_terms(step_between(first, last))
                    self.assertTrue(agree(first, last, row.inside))
                    self.assertTrue(all(term in good for term in row.exits))
                    rows += 1
        self.assertGreater(rows, 1000)

    def assert_is_barrier(self, barrier, count, shelves):
        """Fail unless the barrier is as point 34 says."""
        terms = [(mark, direction) for mark in range(count) for direction in (1, -1)]
        outside = [term for term in terms if term[0] not in barrier.inside]
        self.assertTrue(outside)
        blocked = [term for term, _ in barrier.blocks]
        self.assertEqual(list(barrier.inside), sorted(set(barrier.inside)))
        self.assertEqual(list(barrier.exits), [term for term in outside if term not in blocked])
        self.assertEqual(blocked, [term for term in outside if term not in barrier.exits])
        for (mark, direction), (name, i, j) in barrier.blocks:
            first, second = shelves[name][i], shelves[name][j]
            self.assertTrue(agree(first, second, barrier.inside))
            self.assertLess((second[mark] - first[mark]) * direction, 0)


if __name__ == "__main__":
    unittest.main()
