"""Points 52 and 53: blame and cull."""

import itertools
import random
import unittest

from shelfterms.catalog import Catalog
from shelfterms.culling import blame, cull
from shelfterms.errors import OutOfRange
from shelfterms.evidence import Evidence
from shelfterms.judging import judge_refusal
from shelfterms.papers import Barrier, Refusal
from support import (
    CASES, SOUND, Asserts, barrier_parts, evidence_of, fitting_rules, full_rules, parts_of,
    replaced, spots_of,
)


def moved_case(seed):
    """Return shelves of which a rule has sorted all books but a few, which stand anywhere."""
    chance = random.Random(seed)
    count = chance.choice((1, 2, 2, 3))
    rule = chance.choice(full_rules(count))
    shelves = {}
    for name in ("top", "low", "mid")[:chance.randint(1, 3)]:
        books = [
            tuple(chance.randint(0, 2) for _ in range(count)) for _ in range(chance.randint(2, 5))
        ]
        shelves[name] = sorted(books, key=lambda book: [sign * book[mark] for mark, sign in rule])
    for _ in range(chance.choice((0, 1, 1, 2, 2, 3))):
        books = shelves[chance.choice(list(shelves))]
        book = books.pop(chance.randrange(len(books)))
        books.insert(chance.randrange(len(books) + 1), book)
    return count, shelves


MOVED = [moved_case(seed) for seed in range(150)]
UNLISTED = [(count, shelves) for count, shelves, _ in CASES if count <= 3]


def enough(spots, count, shelves):
    """Return True if some listed rule fits where these spots are left out."""
    return fitting_rules(count, shelves, spots) != []


class Blame(Asserts, unittest.TestCase):

    def test_by_hand(self):
        evidence = Evidence.of(Catalog("a"), top=[(1,), (2,), (1,)], low=[(0,)])
        self.assert_same(blame(evidence), [("top", 0), ("top", 1), ("top", 2)])
        evidence = Evidence.of(Catalog("a"), low=[(0,), (1,)], top=[(1,), (2,), (1,)])
        self.assert_same(blame(evidence), [("top", 1), ("top", 2)])
        evidence = Evidence.of(Catalog("a"), low=[(0,), (1,), (0,)], top=[(1,), (2,), (1,)])
        self.assert_same(blame(evidence), [])

    def test_a_sound_evidence(self):
        for count, shelves, _ in SOUND:
            self.assert_same(blame(evidence_of(count, shelves)), spots_of(shelves))
        self.assert_same(blame(Evidence(Catalog("a", "b"))), [])

    def test_cases(self):
        lengths = set()
        for count, shelves in MOVED + UNLISTED:
            found = blame(evidence_of(count, shelves))
            self.assertIs(type(found), list)
            expected = [
                spot for spot in spots_of(shelves) if enough([spot], count, shelves)
            ]
            self.assert_same(found, expected)
            if not enough([], count, shelves):
                lengths.add(len(found))
        self.assertTrue({0, 1, 2, 3} <= lengths)

    def test_a_new_list(self):
        evidence = Evidence.of(Catalog("a"), top=[(1,), (2,), (1,)])
        blame(evidence).clear()
        self.assertEqual(len(blame(evidence)), 3)
        sound = Evidence.of(Catalog("a"), top=[(1,)])
        blame(sound).clear()
        self.assert_same(blame(evidence=sound), [("top", 0)])


class Cull(Asserts, unittest.TestCase):

    def fewest(self, count, shelves, most):
        """Return the number of spots to leave out, at least, or None if `most` are too few."""
        for many in range(most + 1):
            for spots in itertools.combinations(spots_of(shelves), many):
                if enough(spots, count, shelves):
                    return many
        return None

    def assert_refusal(self, refusal, most, count, shelves, spots=()):
        """Fail unless each node is as the document says, down to the limit."""
        self.assertIs(type(refusal), Refusal)
        self.assertIs(type(refusal.barrier), Barrier)
        expected = barrier_parts([], count, shelves, spots)
        self.assert_same(parts_of(refusal.barrier), expected)
        self.assertIs(type(refusal.children), tuple)
        touched = [(name, at) for _, (name, i, j) in expected[2] for at in (i, j)]
        due = [spot for spot in spots_of(shelves) if spot in touched] if most > 0 else []
        self.assert_same([spot for spot, _ in refusal.children], due)
        for child in refusal.children:
            self.assertIs(type(child), tuple)
            self.assert_refusal(child[1], most - 1, count, shelves, (*spots, child[0]))

    def test_by_hand(self):
        evidence = Evidence.of(Catalog("a"), low=[(0,), (1,)], top=[(1,), (3,), (2,), (4,)])
        self.assertIn(cull(evidence), [(("top", 1),), (("top", 2),)])
        self.assert_same(cull(Evidence(Catalog("a"))), ())
        evidence = Evidence.of(Catalog("a"), low=[(0,), (1,), (0,)], top=[(1,), (2,), (1,)])
        self.assertIs(type(cull(evidence)), Refusal)
        self.assertEqual(len(cull(evidence, 2)), 2)
        refusal = cull(evidence, 0)
        self.assert_same(refusal.children, ())
        self.assert_same(parts_of(refusal.barrier), ((), (), (
            ((0, 1), ("low", 1, 2)), ((0, -1), ("low", 0, 1)),
        )))

    def test_cases(self):
        seen = {}
        for count, shelves in MOVED + UNLISTED[::3]:
            evidence = evidence_of(count, shelves)
            for most in range(3):
                fewest = self.fewest(count, shelves, most)
                found = cull(evidence, most)
                if fewest is None:
                    self.assert_refusal(found, most, count, shelves)
                    self.assertIs(judge_refusal(evidence, found, most), True)
                else:
                    self.assertIs(type(found), tuple)
                    self.assertEqual(len(found), fewest)
                    self.assertTrue(enough(found, count, shelves))
                    order = [spot for spot in spots_of(shelves) if spot in found]
                    self.assert_same(list(found), order)
                seen[(most, fewest)] = seen.get((most, fewest), 0) + 1
        self.assertEqual(set(seen), {
            (0, 0), (0, None), (1, 0), (1, 1), (1, None), (2, 0), (2, 1), (2, 2), (2, None),
        })
        self.assertGreater(min(seen.values()), 2)

    def test_the_order_of_two_spots(self):
        # The barrier finds the one on the second shelf first here, and the other one next.
        for first, second in itertools.permutations([[(0,), (1,), (0,)], [(1,), (0,), (1,)]]):
            evidence = Evidence.of(Catalog("a"), low=first, top=second)
            found = cull(evidence, 2)
            self.assert_same([name for name, _ in found], ["low", "top"])
        evidence = Evidence.of(
            Catalog("a", "b"), low=[(0, 0), (0, 1), (0, 0)], top=[(0, 0), (1, 0), (0, 0)],
        )
        self.assert_same([name for name, _ in cull(evidence, 2)], ["low", "top"])
        evidence = Evidence.of(
            Catalog("a", "b"), low=[(0, 0), (1, 0), (0, 0)], top=[(0, 0), (0, 1), (0, 0)],
        )
        self.assert_same([name for name, _ in cull(evidence, 2)], ["low", "top"])

    def test_the_second_argument(self):
        for count, shelves in MOVED[:60]:
            evidence = evidence_of(count, shelves)
            one, two = cull(evidence), cull(evidence, 1)
            if isinstance(one, Refusal):
                self.assert_same(one.told(evidence.catalog), two.told(evidence.catalog))
            else:
                self.assert_same(one, two)
            for most in range(3):
                by_name = cull(most=most, evidence=evidence)
                self.assertIs(type(by_name), type(cull(evidence, most)))

    def test_told(self):
        evidence = Evidence.of(Catalog("a"), p=[(0,), (1,), (0,)], q=[(0,), (1,), (0,)], r=[
            (0,), (1,), (0,),
        ])
        lines = cull(evidence).told(evidence.catalog)
        self.assert_same(lines[:8], [
            "refusal", "  barrier", "  inside:", "  block: a asc p 1 2", "  block: a desc p 0 1",
            "  without: p 0", "  refusal", "    barrier",
        ])
        self.assert_same(
            [line for line in lines if "without" in line],
            ["  without: p 0", "  without: p 1", "  without: p 2"],
        )
        lines = cull(evidence, 2).told(evidence.catalog)
        deeper = [line for line in lines if line.startswith("    without: ")]
        self.assertGreater(len(deeper), 8)

    def test_out_of_range(self):
        for count, shelves in MOVED[:20]:
            evidence = evidence_of(count, shelves)
            for most in (-1, -2, 3, 4, 10 ** 30, -10 ** 30):
                self.assert_raises(OutOfRange, {"number": most}, cull, evidence, most)

    def test_the_evidence_stays(self):
        for count, shelves in MOVED[:20]:
            evidence = evidence_of(count, shelves)
            cull(evidence, 2)
            blame(evidence)
            self.assertEqual(evidence, evidence_of(count, shelves))

    def test_judged_with_another_limit(self):
        for count, shelves in MOVED:
            evidence = evidence_of(count, shelves)
            for most in range(3):
                found = cull(evidence, most)
                if isinstance(found, Refusal):
                    for limit in range(5):
                        self.assertIs(judge_refusal(evidence, found, limit), limit == most)
                    if most:
                        children = replaced(found.children, 0, found.children[-1])
                        wrong = Refusal(found.barrier, children)
                        self.assertIs(judge_refusal(evidence, wrong, most), False)


if __name__ == "__main__":
    unittest.main()
