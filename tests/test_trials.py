"""Points 46, 51 and 53: the judges of scarcities and refusals."""

import itertools
import random
import unittest

from shelfterms.catalog import Catalog
from shelfterms.evidence import Evidence
from shelfterms.family import Family
from shelfterms.judging import judge_gate, judge_refusal, judge_scarcity
from shelfterms.papers import Barrier, Gate, Refusal, Scarcity
from shelfterms.shortening import scarcity
from support import (
    CASES, LISTED, SOUND, Asserts, closing, evidence_of, parts_of, replaced, spots_of, terms_of,
)

FAR = 10 ** 30


class JudgeScarcity(Asserts, unittest.TestCase):

    # Any rule has to tell a from b and b from c.
    EVIDENCE = Evidence.of(
        Catalog("a", "b", "c"), top=[(0, 0, 0), (1, 0, 0)], low=[(0, 0, 0), (0, 1, 0)],
    )

    def gates(self):
        return scarcity(self.EVIDENCE).gates

    def test_by_hand(self):
        paper = scarcity(self.EVIDENCE)
        self.assert_same(paper.bound, 2)
        self.assertIs(judge_scarcity(self.EVIDENCE, paper), True)
        first = Gate((), (), (), (), ("low", 0, 1))
        self.assertIs(judge_scarcity(self.EVIDENCE, Scarcity(1, (first,))), True)
        self.assertIs(judge_scarcity(self.EVIDENCE, Scarcity(0, ())), True)

    def test_papers_that_are_found(self):
        bounds = set()
        for count, shelves, _ in SOUND:
            evidence = evidence_of(count, shelves)
            paper = scarcity(evidence)
            self.assertIs(judge_scarcity(evidence, paper), True)
            bounds.add(paper.bound)
        self.assertEqual(bounds, {0, 1, 2, 3, 4})

    def test_smaller_bounds(self):
        for count, shelves, _ in SOUND:
            evidence = evidence_of(count, shelves)
            family = Family(evidence)
            for bound in range(1, scarcity(evidence).bound):
                sets = list(itertools.combinations(range(count), bound - 1))
                gates = tuple(self.gate(family, among, count, shelves) for among in sets)
                self.assertIs(judge_scarcity(evidence, Scarcity(bound, gates)), True)

    def gate(self, family, among, count, shelves):
        inside = family.reach([mark for mark in range(count) if mark not in among])
        blocks = tuple(
            (term, closing(term, inside, shelves)[-1]) for term in terms_of(count)
            if term[0] in among and term[0] not in inside
        )
        left = [
            (name, i, j) for name, books in shelves.items()
            for i, j in itertools.combinations(range(len(books)), 2)
            if books[i] != books[j] and all(books[i][mark] == books[j][mark] for mark in inside)
        ]
        return Gate(inside, (), blocks, tuple(among), left[-1])

    def test_other_bounds(self):
        gates = self.gates()
        for bound in (-1, -2, 0, 1, 3, 4, 5, 8, 9, FAR, -FAR):
            for some in (gates, gates[:1], ()):
                expected = bound == 0 and some == ()
                self.assertIs(judge_scarcity(self.EVIDENCE, Scarcity(bound, some)), expected)

    def test_a_bound_beyond_the_marks(self):
        # No set of so many marks is there, so no gates are due.
        for count in range(1, 9):
            evidence = Evidence(Catalog.numbered(count))
            for bound in (-FAR, -2, -1, count + 1, count + 2, FAR):
                self.assertIs(judge_scarcity(evidence, Scarcity(bound, ())), False)
            self.assertIs(judge_scarcity(evidence, Scarcity(0, ())), True)
            self.assertIs(judge_scarcity(evidence, Scarcity(count, ())), False)

    def test_the_greatest_bound(self):
        evidence = Evidence.of(Catalog("a", "b"), top=[(0, 1), (1, 0)], low=[(0, 0), (0, 1)], mid=[
            (0, 0), (1, 0),
        ])
        paper = scarcity(evidence)
        self.assert_same(paper.bound, 2)
        self.assertIs(judge_scarcity(evidence, paper), True)

    def test_gates_less_doubled_or_exchanged(self):
        gates = self.gates()
        self.assertEqual(len(gates), 3)
        wrong = [gates[:at] + gates[at + 1:] for at in range(3)]
        wrong += [gates[:at] + gates[at:at + 1] + gates[at:] for at in range(3)]
        wrong += [order for order in itertools.permutations(gates) if order != gates]
        wrong += [replaced(gates, at, gates[at - 1]) for at in range(3)]
        empty = Gate((), (), (), (), ("low", 0, 1))
        wrong += [(empty, *gates), (*gates, empty), (empty,), ()]
        for some in wrong:
            self.assertIs(judge_scarcity(self.EVIDENCE, Scarcity(2, some)), False)

    def test_a_gate_with_an_exit(self):
        for count, shelves, _ in SOUND:
            evidence = evidence_of(count, shelves)
            paper = scarcity(evidence)
            for at, gate in enumerate(paper.gates):
                for block in gate.blocks:
                    blocks = tuple(other for other in gate.blocks if other != block)
                    other = Gate(gate.inside, block[:1], blocks, gate.among, gate.place)
                    self.assertIs(judge_gate(evidence, other), True)
                    wrong = Scarcity(paper.bound, replaced(paper.gates, at, other))
                    self.assertIs(judge_scarcity(evidence, wrong), False)

    def test_a_gate_with_a_spoilt_part(self):
        for count, shelves, _ in SOUND:
            evidence = evidence_of(count, shelves)
            paper = scarcity(evidence)
            for at, gate in enumerate(paper.gates):
                name, i, j = gate.place
                parts = (gate.inside, gate.exits, gate.blocks, gate.among, gate.place)
                for index, part in (
                    (0, (*gate.inside, count)), (0, (-1, *gate.inside)), (1, ((count, 1),)),
                    (2, (((0, 1), ("x", 0, 1)), *gate.blocks)), (3, (*gate.among, count)),
                    (3, (-1, *gate.among)), (3, (FAR,)), (4, (name, j, i)), (4, (name, i, FAR)),
                    (4, ("x" * 500, i, j)), (4, (name, -FAR, j)),
                ):
                    other = Gate(*replaced(parts, index, part))
                    wrong = Scarcity(paper.bound, replaced(paper.gates, at, other))
                    self.assertIs(judge_scarcity(evidence, wrong), False)

    def test_another_evidence(self):
        paper = scarcity(self.EVIDENCE)
        for other in (
            Evidence(self.EVIDENCE.catalog), self.EVIDENCE.without_shelf("top"),
            self.EVIDENCE.without_shelf("low"), Evidence(Catalog("a", "b")),
        ):
            self.assertIs(judge_scarcity(other, paper), False)

    def test_arguments_by_name(self):
        paper = scarcity(self.EVIDENCE)
        self.assertIs(judge_scarcity(paper=paper, evidence=self.EVIDENCE), True)


def block_spots(blocks, shelves):
    """Return the spots of the blocks in the order of all spots."""
    found = [(name, at) for _, (name, i, j) in blocks for at in (i, j)]
    return [spot for spot in spots_of(shelves) if spot in found]


def refusal_of(evidence, shelves, most, spots=()):
    """Return the refusal for `most` more spots, or None if leaving out so many is enough."""
    barrier = Family(evidence, spots).find_barrier()
    if barrier is None:
        return None
    children = []
    for spot in block_spots(barrier.blocks, shelves) if most > 0 else []:
        child = refusal_of(evidence, shelves, most - 1, (*spots, spot))
        if child is None:
            return None
        children.append((spot, child))
    return Refusal(barrier, tuple(children))


def nodes(refusal, path=()):
    """Return each way to a refusal in the refusal, as a tuple of indices of children."""
    found = [path]
    for at, (_, child) in enumerate(refusal.children):
        found += nodes(child, (*path, at))
    return found


def at_node(refusal, path):
    for at in path:
        refusal = refusal.children[at][1]
    return refusal


def with_node(refusal, path, other):
    """Return the refusal with another one at the end of the way."""
    if not path:
        return other
    spot, child = refusal.children[path[0]]
    child = (spot, with_node(child, path[1:], other))
    return Refusal(refusal.barrier, replaced(refusal.children, path[0], child))


# In each row of a column with the values 0, 1, 0 one book stands wrong.
ROWS = {
    name: [(0,), (1,), (0,)] for name in ("p", "q", "r", "s")
}


class JudgeRefusal(Asserts, unittest.TestCase):

    def right(self, most, cases=CASES):
        """Return right refusals, each with the evidence and its shelves."""
        found = []
        for count, shelves, _ in cases:
            evidence = evidence_of(count, shelves)
            refusal = refusal_of(evidence, shelves, most)
            if refusal is not None:
                found.append((refusal, evidence, shelves))
        return found

    def assert_refused(self, expected, evidence, refusal, most):
        self.assertIs(judge_refusal(evidence, refusal, most), expected)

    def test_by_hand(self):
        evidence = evidence_of(1, {"p": ROWS["p"], "q": ROWS["q"]})
        found = Barrier((), (), (((0, 1), ("p", 1, 2)), ((0, -1), ("p", 0, 1))))
        self.assert_refused(True, evidence, Refusal(found, ()), 0)
        self.assert_refused(False, evidence, Refusal(found, ()), 1)
        other = Barrier((), (), (((0, 1), ("q", 1, 2)), ((0, -1), ("q", 0, 1))))
        children = tuple((("p", at), Refusal(other, ())) for at in range(3))
        self.assert_refused(True, evidence, Refusal(found, children), 1)
        self.assert_refused(False, evidence, Refusal(found, children), 0)
        self.assert_refused(False, evidence, Refusal(found, children), 2)

    def test_depths(self):
        for most in range(4):
            shelves = {name: ROWS[name] for name in list(ROWS)[:most + 1]}
            evidence = evidence_of(1, shelves)
            self.assertIsNone(refusal_of(evidence, shelves, most + 1))
            refusal = refusal_of(evidence, shelves, most)
            self.assertEqual(max(len(path) for path in nodes(refusal)), most)
            for limit in range(7):
                self.assert_refused(limit == most, evidence, refusal, limit)

    def test_refusals_that_are_found(self):
        for most, many in ((0, 50), (1, 20), (2, 4)):
            found = self.right(most)
            self.assertGreater(len(found), many)
            for refusal, evidence, _ in found:
                for limit in range(5):
                    self.assert_refused(limit == most, evidence, refusal, limit)

    def test_a_sound_evidence(self):
        for count, shelves, rules in LISTED[:60]:
            if rules:
                barrier = Barrier((), (), ())
                self.assert_refused(False, evidence_of(count, shelves), Refusal(barrier, ()), 0)

    def assert_spoilt(self, most, spoil, cases=CASES[:80]):
        """Fail unless a refusal is no longer right when any of its nodes is spoilt."""
        spoilt = 0
        for refusal, evidence, shelves in self.right(most, cases):
            for path in nodes(refusal)[::1 + len(nodes(refusal)) // 40]:
                node = at_node(refusal, path)
                for other in spoil(node, evidence, shelves):
                    wrong = with_node(refusal, path, other)
                    self.assert_refused(False, evidence, wrong, most)
                    spoilt += 1
        self.assertGreater(spoilt, 30)

    def test_a_child_less_doubled_or_exchanged(self):
        def spoil(node, evidence, shelves):
            children = node.children
            many = len(children)
            rows = [children[:at] + children[at + 1:] for at in range(many)]
            rows += [children[:at + 1] + children[at:] for at in range(many)]
            rows += [children[::-1], (), children[1:] + children[:1]]
            for one, two in itertools.combinations(range(many), 2):
                rows.append(replaced(replaced(children, one, children[two]), two, children[one]))
            return [Refusal(node.barrier, row) for row in rows if row != children]
        self.assert_spoilt(1, spoil)
        self.assert_spoilt(2, spoil, CASES[:40])

    def test_a_wrong_spot(self):
        def spoil(node, evidence, shelves):
            found = []
            for at, (spot, child) in enumerate(node.children):
                spots = [("nowhere", 0), (spot[0], -1), (spot[0], FAR), ("x" * 300, 0)]
                for other in spots_of(shelves) + spots:
                    if other != spot:
                        children = replaced(node.children, at, (other, child))
                        found.append(Refusal(node.barrier, children))
            return found
        self.assert_spoilt(1, spoil)
        self.assert_spoilt(2, spoil, CASES[:30])

    def test_a_child_too_many(self):
        def spoil(node, evidence, shelves):
            due = block_spots(node.barrier.blocks, shelves)
            if not node.children:
                return []
            child = node.children[0][1]
            spots = [spot for spot in spots_of(shelves) if spot not in due]
            spots += [("nowhere", 0), (due[0][0], -1), (due[0][0], FAR)]
            found = []
            for spot in spots:
                for at in (0, 1, len(node.children)):
                    row = (*node.children[:at], (spot, child), *node.children[at:])
                    found.append(Refusal(node.barrier, row))
            return found
        self.assert_spoilt(1, spoil)
        self.assert_spoilt(2, spoil, CASES[:40])

    def test_children_where_none_are_due(self):
        def spoil(node, evidence, shelves):
            if node.children:
                return []
            leaf = Refusal(node.barrier, ())
            spots = block_spots(node.barrier.blocks, shelves)
            rows = [tuple((spot, leaf) for spot in spots), ((spots[0], leaf),)]
            return [Refusal(node.barrier, row) for row in rows]
        for most in range(3):
            self.assert_spoilt(most, spoil)

    def test_a_barrier_with_an_exit_or_a_spoilt_part(self):
        def spoil(node, evidence, shelves):
            inside, exits, blocks = parts_of(node.barrier)
            count = len(evidence.catalog)
            rows = [(tuple(range(count)), (), ()), ((*inside, count), exits, blocks)]
            rows += [((-1, *inside), exits, blocks), (inside, ((count, 1),), blocks)]
            rows += [(inside, exits, blocks[::-1]), (inside, exits, blocks[:1] + blocks)]
            for at, (term, (name, i, j)) in enumerate(blocks):
                fewer = blocks[:at] + blocks[at + 1:]
                rows += [(inside, exits, fewer), (inside, (term,), fewer)]
                for place in ((name, j, i), (name, i, i), (name, i, FAR), ("", i, j)):
                    rows.append((inside, exits, replaced(blocks, at, (term, place))))
            return [Refusal(Barrier(*parts), node.children) for parts in rows]
        for most in range(2):
            self.assert_spoilt(most, spoil)
        self.assert_spoilt(2, spoil, CASES[:30])

    def test_any_barriers_that_hold(self):
        # The places need not be the first, nor the books neighbours.
        chance = random.Random(16)
        for most in range(3):
            for seed in range(5):
                shelves = {
                    name: [(chance.choice((0, 1)),) for _ in range(6)] for name in ("p", "q")
                }
                evidence = evidence_of(1, shelves)
                refusal = self.any_refusal(shelves, most, chance)
                if refusal is not None:
                    self.assert_refused(True, evidence, refusal, most)

    def any_refusal(self, shelves, most, chance, spots=()):
        blocks = []
        for direction in (1, -1):
            fitting = [
                (name, i, j) for name, books in shelves.items()
                for i, j in itertools.combinations(range(len(books)), 2)
                if (books[j][0] - books[i][0]) * direction < 0
                and (name, i) not in spots and (name, j) not in spots
            ]
            if not fitting:
                return None
            blocks.append(((0, direction), chance.choice(fitting)))
        children = []
        for spot in block_spots(blocks, shelves) if most > 0 else []:
            child = self.any_refusal(shelves, most - 1, chance, (*spots, spot))
            if child is None:
                return None
            children.append((spot, child))
        return Refusal(Barrier((), (), tuple(blocks)), tuple(children))

    def test_a_barrier_over_a_spot_that_is_left_out(self):
        shelves = {"p": ROWS["p"], "q": ROWS["q"]}
        evidence = evidence_of(1, shelves)
        refusal = refusal_of(evidence, shelves, 1)
        children = tuple((spot, Refusal(refusal.barrier, ())) for spot, _ in refusal.children)
        self.assert_refused(False, evidence, Refusal(refusal.barrier, children), 1)

    def test_a_barrier_over_a_spot_that_is_left_out_further_up(self):
        shelves = {name: ROWS[name] for name in ("p", "q", "r")}
        evidence = evidence_of(1, shelves)
        p, q, r = (
            Barrier((), (), (((0, 1), (name, 1, 2)), ((0, -1), (name, 0, 1))))
            for name in shelves
        )
        for last, expected in ((r, True), (q, False), (p, False)):
            lower = tuple((("q", at), Refusal(last, ())) for at in range(3))
            upper = tuple((("p", at), Refusal(q, lower)) for at in range(3))
            self.assert_refused(expected, evidence, Refusal(p, upper), 2)

    def test_arguments_by_name(self):
        evidence = evidence_of(1, ROWS)
        refusal = refusal_of(evidence, ROWS, 1)
        self.assertIs(judge_refusal(most=1, refusal=refusal, evidence=evidence), True)


if __name__ == "__main__":
    unittest.main()
