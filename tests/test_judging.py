"""Points 46 and 47: the judges of rules, barriers and gates, with InvalidSpot (point 22)."""

import itertools
import random
import unittest

from shelfterms.answers import chain_paper, need_paper, order_of, settle
from shelfterms.catalog import Catalog
from shelfterms.errors import InvalidSpot
from shelfterms.evidence import Evidence
from shelfterms.family import Family
from shelfterms.judging import judge_barrier, judge_before, judge_gate, judge_rule
from shelfterms.papers import Barrier, Gate
from shelfterms.rules import Rule
from support import (
    CASES, LISTED, NO_SPOTS, SOUND, Asserts, agree, book_near, evidence_of, fitting_rules,
    full_rules, order_by, parts_of, replaced, terms_of,
)

FAR = 10 ** 30
THREE = Catalog("a", "b", "c")
LINE = Evidence.of(THREE, top=[(0, 5, 5), (1, 5, 0), (1, 3, 9)])


def places_of(shelves):
    """Return all places, also of books that are no neighbours."""
    return [
        (name, i, j) for name, books in shelves.items()
        for i, j in itertools.combinations(range(len(books)), 2)
    ]


def no_places(shelves):
    """Return places that do not exist."""
    found = [("other", 0, 1), ("", 0, 1), ("x" * 1000, 0, 1)]
    for name, books in shelves.items():
        many = len(books)
        found += [
            (name, 0, many), (name, -1, 0), (name, 0, 0), (name, 1, 0), (name, 0, FAR),
            (name, -FAR, FAR), (name, many - 1, many), (name.upper() + "x", 0, 1), (name, 1, 1),
        ]
    return found


def is_bad(term, place, shelves):
    name, i, j = place
    mark, direction = term
    return (shelves[name][j][mark] - shelves[name][i][mark]) * direction < 0


def fitting_places(term, inside, shelves, absent=()):
    """Return all places that fit a block, also of books that are no neighbours."""
    return [
        (name, i, j) for name, i, j in places_of(shelves)
        if (name, i) not in absent and (name, j) not in absent
        and agree(shelves[name][i], shelves[name][j], inside)
        and is_bad(term, (name, i, j), shelves)
    ]


def ascends(numbers):
    return all(one < two for one, two in zip(numbers, numbers[1:]))


def ascending_terms(terms, count):
    return (
        all(term in terms_of(count) for term in terms)
        and ascends([(mark, -direction) for mark, direction in terms])
    )


def is_right(parts, among, count, shelves, absent=()):
    """Return True if the parts are those of a barrier, as far as these marks go."""
    inside, exits, blocks = parts
    if not ascends(inside) or any(mark not in among for mark in inside):
        return False
    blocked = [term for term, _ in blocks]
    if not ascending_terms(exits, count) or not ascending_terms(blocked, count):
        return False
    outside = [term for term in terms_of(count) if term[0] in among and term[0] not in inside]
    if sorted([*exits, *blocked]) != sorted(outside):
        return False
    return all(
        place in fitting_places(term, inside, shelves, absent) for term, place in blocks
    )


def is_right_barrier(parts, count, shelves, absent=()):
    return len(set(parts[0])) < count and is_right(parts, range(count), count, shelves, absent)


def is_right_gate(parts, count, shelves):
    *barrier, among, place = parts
    if not ascends(among) or any(not 0 <= mark < count for mark in among):
        return False
    if not is_right(barrier, among, count, shelves) or place not in places_of(shelves):
        return False
    name, i, j = place
    first, second = shelves[name][i], shelves[name][j]
    return first != second and agree(first, second, parts[0])


def spoilt_row(row, more):
    """Return rows with an item less, doubled, exchanged, replaced or more than in this one."""
    found = [row[::-1], (*more, *row), (*row, *more)]
    for at in range(len(row)):
        found.append(row[:at] + row[at + 1:])
        found.append(row[:at] + row[at:at + 1] * 2 + row[at + 1:])
        found.extend(replaced(row, at, item) for item in more)
    for at in range(len(row) + 1):
        found.extend((*row[:at], item, *row[at:]) for item in more)
    for one, two in itertools.combinations(range(len(row)), 2):
        found.append(replaced(replaced(row, one, row[two]), two, row[one]))
    return [other for other in found if other != row]


def spoilt_barriers(parts, count, shelves):
    """Return the parts with one of them spoilt in each of many ways."""
    inside, exits, blocks = parts
    marks = [*range(count), count, count + 1, 7, 8, -1, -2, FAR, -FAR]
    terms = [
        *terms_of(count), (count, 1), (count, -1), (-1, 1), (-1, -1), (0, 0), (0, 2), (0, -2),
        (FAR, 1), (0, FAR), (7, 1),
    ]
    places = places_of(shelves) + no_places(shelves)
    found = [(other, exits, blocks) for other in spoilt_row(inside, marks)]
    found += [(inside, other, blocks) for other in spoilt_row(exits, terms)]
    found += [(inside, exits, other) for other in spoilt_row(blocks, blocks[:1])]
    for at, (term, place) in enumerate(blocks):
        for other in terms:
            found.append((inside, exits, replaced(blocks, at, (other, place))))
            found.append((inside, exits, (*blocks[:at], (other, place), *blocks[at:])))
        for other in places:
            found.append((inside, exits, replaced(blocks, at, (term, other))))
        found.append((inside, (*exits, term), blocks[:at] + blocks[at + 1:]))
    return found


class JudgeRule(Asserts, unittest.TestCase):

    def test_cases(self):
        found = {True: 0, False: 0}
        for count, shelves, absent in CASES:
            evidence = evidence_of(count, shelves)
            fitting = fitting_rules(count, shelves)
            fitting_without = fitting_rules(count, shelves, absent)
            rules = full_rules(count)
            for terms in rules[::max(1, len(rules) // 24)] + fitting[:3] + fitting_without[-3:]:
                expected = terms in fitting
                self.assertIs(judge_rule(evidence, Rule(*terms)), expected)
                found[expected] += 1
                expected = terms in fitting_without
                for spots in (absent, absent[::-1], absent * 2):
                    self.assertIs(judge_rule(evidence, Rule(*terms), spots), expected)
        self.assertGreater(min(found.values()), 500)

    def test_rules_that_are_not_full(self):
        for count, shelves, rules in SOUND:
            evidence = evidence_of(count, shelves)
            for terms in rules[:5]:
                self.assertIs(judge_rule(evidence, Rule(*terms)), True)
                for at in range(count):
                    self.assertIs(judge_rule(evidence, Rule(*terms[:at])), False)
                    self.assertIs(judge_rule(evidence, Rule(*terms[at + 1:])), False)

    def test_further_marks(self):
        for count, shelves, rules in SOUND:
            evidence = evidence_of(count, shelves)
            for terms in rules[:2]:
                for mark in range(count, 8):
                    for direction in (1, -1):
                        more = (mark, direction)
                        for at in range(count + 1):
                            rule = Rule(*terms[:at], more, *terms[at:])
                            self.assertIs(judge_rule(evidence, rule), False)
                        for at in range(count):
                            rule = Rule(*replaced(terms, at, more))
                            self.assertIs(judge_rule(evidence, rule), False)

    def test_without_shelves(self):
        for count in range(1, 9):
            evidence = Evidence(Catalog.numbered(count))
            marks = list(range(count))
            self.assertIs(judge_rule(evidence, Rule.ascending(*marks)), True)
            self.assertIs(judge_rule(evidence, -Rule.ascending(*marks[::-1])), True)
            self.assertIs(judge_rule(evidence, Rule.ascending(*marks[1:])), False)
            self.assertIs(judge_rule(evidence, Rule()), False)

    def test_the_rules_of_settle(self):
        for count, shelves, absent in CASES:
            evidence = evidence_of(count, shelves)
            paper = settle(evidence, absent)
            if isinstance(paper, Rule):
                self.assertIs(judge_rule(evidence, paper, absent), True)

    def test_arguments_by_name(self):
        rule = Rule((0, 1), (1, 1), (2, 1))
        self.assertIs(judge_rule(evidence=LINE, rule=rule), False)
        self.assertIs(judge_rule(spots=[("top", 2)], rule=rule, evidence=LINE), True)
        self.assertIs(judge_rule(LINE, rule, spots=[("top", 2)]), True)

    def test_invalid_spots_come_first(self):
        rules = (Rule(), Rule((7, 1)), Rule((0, 1), (1, -1), (2, 1)), Rule((0, -1), (1, 1), (2, 1)))
        for value in NO_SPOTS:
            for rule in rules:
                for spots in ([value], [("top", 0), value, None]):
                    given = list(spots)
                    with self.assertRaises(InvalidSpot) as caught:
                        judge_rule(LINE, rule, spots)
                    self.assertIs(type(caught.exception), InvalidSpot)
                    self.assertIs(caught.exception.spot, value)
                    self.assertTrue(all(one is two for one, two in zip(spots, given)))
        for first, second in itertools.permutations(NO_SPOTS, 2):
            with self.assertRaises(InvalidSpot) as caught:
                judge_rule(LINE, Rule(), [first, ("top", 1), second])
            self.assertIs(caught.exception.spot, first)


class JudgeBarrier(Asserts, unittest.TestCase):

    def assert_judged(self, evidence, parts, case, absent=None):
        """Fail unless the judge says of the barrier what the document says; return it."""
        expected = is_right_barrier(parts, *case, absent or ())
        arguments = [] if absent is None else [absent]
        self.assertIs(judge_barrier(evidence, Barrier(*parts), *arguments), expected, parts)
        return expected

    def barriers(self, cases):
        """Return the parts of barriers that are found, with and without exits."""
        chance = random.Random(9)
        found = []
        for count, shelves, absent in cases:
            family = Family(evidence_of(count, shelves), absent)
            for many in range(3):
                exits = chance.sample(terms_of(count), min(many, count))
                barrier = family.find_barrier(exits)
                if barrier is not None:
                    found.append((parts_of(barrier), (count, shelves), absent))
        return found

    def test_by_hand(self):
        blocks = (((2, 1), ("top", 0, 1)), ((2, -1), ("top", 0, 2)))
        self.assertIs(judge_barrier(LINE, Barrier((0, 1), ((2, 1), (2, -1)), ())), True)
        self.assertIs(judge_barrier(LINE, Barrier((0, 1), (), blocks)), False)
        blocks = (((2, 1), ("top", 0, 1)), ((2, -1), ("top", 1, 2)))
        exits = ((0, 1), (0, -1), (1, 1), (1, -1))
        self.assertIs(judge_barrier(LINE, Barrier((), exits, blocks)), True)
        self.assertIs(judge_barrier(LINE, Barrier((0, 1, 2), (), ())), False)
        # Books that are no neighbours.
        exits = ((0, 1), (1, 1), (1, -1), (2, 1), (2, -1))
        blocks = (((0, -1), ("top", 0, 2)),)
        self.assertIs(judge_barrier(LINE, Barrier((), exits, blocks)), True)

    def test_barriers_that_are_found(self):
        found = self.barriers(CASES)
        self.assertGreater(len(found), 200)
        for parts, (count, shelves), absent in found:
            evidence = evidence_of(count, shelves)
            for spots in (absent, absent[::-1], absent * 2):
                self.assertIs(judge_barrier(evidence, Barrier(*parts), spots), True)
            self.assert_judged(evidence, parts, (count, shelves))

    def test_any_places_that_fit(self):
        chance = random.Random(10)
        further = 0
        for parts, (count, shelves), absent in self.barriers(CASES):
            inside, exits, blocks = parts
            evidence = evidence_of(count, shelves)
            for _ in range(3):
                others = tuple(
                    (term, chance.choice(fitting_places(term, inside, shelves, absent)))
                    for term, _ in blocks
                )
                further += others != blocks
                barrier = Barrier(inside, exits, others)
                self.assertIs(judge_barrier(evidence, barrier, absent), True)
        self.assertGreater(further, 200)

    def test_any_terms_as_exits(self):
        chance = random.Random(11)
        for parts, (count, shelves), absent in self.barriers(CASES):
            inside, _, blocks = parts
            evidence = evidence_of(count, shelves)
            blocks = tuple(block for block in blocks if chance.randrange(2))
            blocked = [term for term, _ in blocks]
            exits = tuple(
                term for term in terms_of(count) if term[0] not in inside and term not in blocked
            )
            self.assertIs(judge_barrier(evidence, Barrier(inside, exits, blocks), absent), True)

    def test_one_part_spoilt(self):
        seen = {True: 0, False: 0}
        for parts, (count, shelves), absent in self.barriers(CASES[:60]):
            evidence = evidence_of(count, shelves)
            for other in spoilt_barriers(parts, count, shelves):
                seen[self.assert_judged(evidence, other, (count, shelves), absent)] += 1
        self.assertGreater(min(seen.values()), 300)

    def test_spoilings_that_are_never_right(self):
        for parts, (count, shelves), absent in self.barriers(CASES):
            inside, exits, blocks = parts
            evidence = evidence_of(count, shelves)
            wrong = [
                (inside[:at] + inside[at:at + 1] + inside[at:], exits, blocks)
                for at in range(len(inside))
            ]
            wrong += [
                (inside, exits[:at] + exits[at + 1:], blocks) for at in range(len(exits))
            ]
            wrong += [
                (inside, exits, blocks[:at] + blocks[at + 1:]) for at in range(len(blocks))
            ]
            wrong += [(tuple(range(count)), (), ()), ((*inside, count), exits, blocks)]
            wrong += [(inside, (*exits, (count, 1)), blocks), ((-1, *inside), exits, blocks)]
            for name, i, j in no_places(shelves)[:6]:
                wrong += [
                    (inside, exits, replaced(blocks, at, (term, (name, i, j))))
                    for at, (term, _) in enumerate(blocks)
                ]
            for other in wrong:
                self.assertIs(judge_barrier(evidence, Barrier(*other), absent), False)

    def test_a_spot_that_is_left_out(self):
        for parts, (count, shelves), absent in self.barriers(CASES):
            evidence = evidence_of(count, shelves)
            for _, (name, i, j) in parts[2]:
                for spot in ((name, i), (name, j)):
                    for spots in ([spot], [*absent, spot], [spot, spot]):
                        self.assertIs(judge_barrier(evidence, Barrier(*parts), spots), False)

    def test_random_barriers(self):
        chance = random.Random(12)
        seen = {True: 0, False: 0}
        for count, shelves, absent in CASES:
            places = places_of(shelves)
            evidence = evidence_of(count, shelves)
            for _ in range(10):
                inside = tuple(mark for mark in range(count) if chance.randrange(4) == 0)
                exits, blocks = (), ()
                for term in terms_of(count):
                    if term[0] not in inside:
                        if places and chance.randrange(4) == 0:
                            blocks += ((term, chance.choice(places)),)
                        else:
                            exits += (term,)
                parts = (inside, exits, blocks)
                seen[self.assert_judged(evidence, parts, (count, shelves), absent)] += 1
        self.assertGreater(min(seen.values()), 300)

    def test_a_gate(self):
        # Its two further parts are not looked at.
        for parts, (count, shelves), absent in self.barriers(CASES[:60]):
            evidence = evidence_of(count, shelves)
            for among, place in (((), ("?", 0, 0)), ((9, -1), ("", FAR, -FAR)), ((0,), ())):
                gate = Gate(*parts, among, place)
                self.assertIs(judge_barrier(evidence, gate, absent), True)
                wrong = Gate(parts[0], (*parts[1], (0, 0)), parts[2], among, place)
                self.assertIs(judge_barrier(evidence, wrong, absent), False)

    def test_a_gate_that_is_right_as_a_gate_alone(self):
        evidence = Evidence.of(Catalog("height", "year"), top=[(3, 1990), (1, 1995), (2, 1995)])
        gate = need_paper(evidence, 1)
        self.assertIs(judge_gate(evidence, gate), True)
        self.assertIs(judge_barrier(evidence, gate), False)

    def test_without_shelves(self):
        for count in range(1, 9):
            evidence = Evidence(Catalog.numbered(count))
            self.assertIs(judge_barrier(evidence, Barrier((), tuple(terms_of(count)), ())), True)
            self.assertIs(judge_barrier(evidence, Barrier((), (), ())), False)

    def test_arguments_by_name(self):
        barrier = Barrier((0, 1), ((2, 1), (2, -1)), ())
        self.assertIs(judge_barrier(spots=[("top", 0)], barrier=barrier, evidence=LINE), True)
        self.assertIs(judge_barrier(LINE, barrier, spots=[]), True)

    def test_invalid_spots_come_first(self):
        barriers = (
            Barrier((0, 1), ((2, 1), (2, -1)), ()), Barrier((0, 1, 2), (), ()), Barrier((), (), ()),
            Barrier((FAR,), (), ()), Barrier((), ((9, 9),), ()),
        )
        for value in NO_SPOTS:
            for barrier in barriers:
                for spots in ([value], [("top", 0), value, None]):
                    given = list(spots)
                    with self.assertRaises(InvalidSpot) as caught:
                        judge_barrier(LINE, barrier, spots)
                    self.assertIs(type(caught.exception), InvalidSpot)
                    self.assertIs(caught.exception.spot, value)
                    self.assertTrue(all(one is two for one, two in zip(spots, given)))
        for first, second in itertools.permutations(NO_SPOTS, 2):
            with self.assertRaises(InvalidSpot) as caught:
                judge_barrier(LINE, barriers[0], [first, ("top", 1), second])
            self.assertIs(caught.exception.spot, first)


class JudgeBefore(Asserts, unittest.TestCase):

    def expected(self, parts, first, second, case):
        inside, exits, _ = parts
        good = all(
            (second[mark] - first[mark]) * direction > 0 for mark, direction in exits
        ) if is_right_barrier(parts, *case) else False
        return good and agree(first, second, inside)

    def test_by_hand(self):
        evidence = Evidence.of(Catalog("height", "year"), top=[(3, 1990), (1, 1995), (2, 1995)])
        barrier = order_of(evidence, (5, 1990), (1, 1995)).after
        self.assertIs(judge_before(evidence, barrier, (5, 1990), (1, 1995)), True)
        self.assertIs(judge_before(evidence, barrier, (9, 0), (-9, 1)), True)
        self.assertIs(judge_before(evidence, barrier, (1, 1995), (5, 1990)), False)
        self.assertIs(judge_before(evidence, barrier, (5, 1990), (5, 1995)), False)
        self.assertIs(judge_before(evidence, barrier, (5, 1990), (5, 1990)), False)

    def test_the_barriers_of_orders_and_chains(self):
        chance = random.Random(13)
        seen = {True: 0, False: 0}
        for count, shelves, rules in SOUND:
            evidence = evidence_of(count, shelves)
            for _ in range(4):
                books = [book_near(chance, count, shelves) for _ in range(3)]
                papers = [order_of(evidence, *books[:2]).after, chain_paper(evidence, books)]
                for paper, last in zip(papers, (books[1], books[2])):
                    if isinstance(paper, Barrier):
                        self.assertIs(judge_before(evidence, paper, books[0], last), True)
                        self.assertIs(judge_before(evidence, paper, last, books[0]), False)
                        seen[True] += 1
                        for other in books:
                            expected = self.expected(
                                parts_of(paper), books[0], other, (count, shelves),
                            )
                            result = judge_before(evidence, paper, books[0], other)
                            self.assertIs(result, expected)
                            seen[result] += 1
                            if result:
                                self.assertTrue(all(
                                    order_by(terms, books[0], other) == -1 for terms in rules
                                ))
        self.assertGreater(min(seen.values()), 100)

    def test_one_part_spoilt(self):
        chance = random.Random(14)
        for count, shelves, _ in SOUND[:60]:
            evidence = evidence_of(count, shelves)
            first, second = (book_near(chance, count, shelves) for _ in range(2))
            paper = order_of(evidence, first, second).after
            if isinstance(paper, Barrier):
                for other in spoilt_barriers(parts_of(paper), count, shelves):
                    expected = self.expected(other, first, second, (count, shelves))
                    result = judge_before(evidence, Barrier(*other), first, second)
                    self.assertIs(result, expected)

    def test_a_barrier_without_exits(self):
        for count, shelves, rules in LISTED:
            if not rules:
                evidence = evidence_of(count, shelves)
                barrier = settle(evidence)
                first, second = (0,) * count, (1,) * count
                expected = barrier.inside == ()
                self.assertIs(judge_before(evidence, barrier, first, second), expected)
                self.assertIs(judge_before(evidence, barrier, first, first), True)

    def test_arguments_by_name(self):
        barrier = order_of(LINE, (0, 5, 5), (1, 5, 0)).after
        arguments = {"second": (1, 5, 0), "first": (0, 5, 5)}
        self.assertIs(judge_before(barrier=barrier, evidence=LINE, **arguments), True)


class JudgeGate(Asserts, unittest.TestCase):

    def parts(self, gate):
        return (*parts_of(gate), gate.among, gate.place)

    def assert_judged(self, evidence, parts, case):
        expected = is_right_gate(parts, *case)
        self.assertIs(judge_gate(evidence, Gate(*parts)), expected, parts)
        return expected

    def gates(self, cases):
        found = []
        for count, shelves, _ in cases:
            evidence = evidence_of(count, shelves)
            for mark in range(count):
                paper = need_paper(evidence, mark)
                if isinstance(paper, Gate):
                    found.append((self.parts(paper), (count, shelves)))
        return found

    def test_by_hand(self):
        evidence = Evidence.of(Catalog("height", "year"), top=[(3, 1990), (1, 1995), (2, 1995)])
        self.assertIs(judge_gate(evidence, Gate((1,), (), (), (1,), ("top", 1, 2))), True)
        self.assertIs(judge_gate(evidence, Gate((1,), (), (), (1,), ("top", 0, 2))), False)
        self.assertIs(judge_gate(evidence, Gate((), (), (), (), ("top", 0, 2))), True)
        self.assertIs(judge_gate(evidence, Gate((1,), (), (), (), ("top", 1, 2))), False)
        self.assertIs(judge_gate(evidence, Gate((), (), (), (1,), ("top", 1, 2))), False)
        exits = ((1, 1), (1, -1))
        self.assertIs(judge_gate(evidence, Gate((), exits, (), (1,), ("top", 1, 2))), True)
        # All marks may be among; but no books that differ agree on all marks.
        exits = ((0, 1), (0, -1))
        self.assertIs(judge_gate(evidence, Gate((1,), exits, (), (0, 1), ("top", 1, 2))), True)
        self.assertIs(judge_gate(evidence, Gate((0, 1), (), (), (0, 1), ("top", 1, 2))), False)

    def test_gates_that_are_found(self):
        found = self.gates(SOUND)
        self.assertGreater(len(found), 100)
        for parts, (count, shelves) in found:
            self.assertIs(judge_gate(evidence_of(count, shelves), Gate(*parts)), True)

    def test_equal_books(self):
        evidence = Evidence.of(Catalog("a", "b"), top=[(1, 1), (1, 1), (1, 2)])
        for place, expected in ((("top", 0, 1), False), (("top", 0, 2), True)):
            for among in ((), (0,)):
                gate = Gate(among, (), (), among, place)
                self.assertIs(judge_gate(evidence, gate), expected)

    def test_any_places_and_exits(self):
        chance = random.Random(15)
        for (inside, _, blocks, among, place), (count, shelves) in self.gates(SOUND):
            evidence = evidence_of(count, shelves)
            others = [
                (name, i, j) for name, i, j in places_of(shelves)
                if shelves[name][i] != shelves[name][j]
                and agree(shelves[name][i], shelves[name][j], inside)
            ]
            self.assertIn(place, others)
            for other in others:
                kept = tuple(
                    (term, chance.choice(fitting_places(term, inside, shelves)))
                    for term, _ in blocks if chance.randrange(2)
                )
                exits = tuple(
                    term for term in terms_of(count) if term[0] in among
                    and term[0] not in inside and term not in [known for known, _ in kept]
                )
                gate = Gate(inside, exits, kept, among, other)
                self.assertIs(judge_gate(evidence, gate), True)

    def test_one_part_spoilt(self):
        seen = {True: 0, False: 0}
        for parts, (count, shelves) in self.gates(SOUND[::3]):
            evidence = evidence_of(count, shelves)
            *barrier, among, place = parts
            marks = [*range(count), count, 7, 8, -1, FAR, -FAR]
            others = [
                (*other, among, place) for other in spoilt_barriers(barrier, count, shelves)
            ]
            others += [(*barrier, other, place) for other in spoilt_row(among, marks)]
            others += [
                (*barrier, among, other) for other in places_of(shelves) + no_places(shelves)
            ]
            for other in others:
                seen[self.assert_judged(evidence, other, (count, shelves))] += 1
        self.assertGreater(min(seen.values()), 300)

    def test_spoilings_that_are_never_right(self):
        for parts, (count, shelves) in self.gates(SOUND):
            evidence = evidence_of(count, shelves)
            inside, exits, blocks, among, place = parts
            name, i, j = place
            for other in (
                (inside, exits, blocks, (*among, among[-1] if among else count), place),
                (inside, exits, blocks, (*among, count), place),
                (inside, exits, blocks, (-1, *among), place),
                (inside, exits, blocks, among, (name, j, i)),
                (inside, exits, blocks, among, (name, i, i)),
                (inside, exits, blocks, among, (name, i, FAR)),
                (inside, exits, blocks, among, ("nowhere", i, j)),
                (inside, (*exits, (count, 1)), blocks, among, place),
                ((*inside, count), exits, blocks, among, place),
            ):
                self.assertIs(judge_gate(evidence, Gate(*other)), False)

    def test_arguments_by_name(self):
        evidence = Evidence.of(Catalog("a", "b"), top=[(1, 1), (1, 2)])
        gate = Gate((0,), (), (), (0,), ("top", 0, 1))
        self.assertIs(judge_gate(gate=gate, evidence=evidence), True)


if __name__ == "__main__":
    unittest.main()
