"""What several tests share."""

import random
from itertools import combinations, permutations, product

from shelfterms.catalog import Catalog
from shelfterms.evidence import Evidence

NAMES = ("a", "b", "c", "d", "e", "f", "g", "h")

# Values that are neither a string nor an integer nor a tuple of integers.
OTHER_KINDS = (
    None, True, False, 1.0, 2.5, b"a", [], ["a"], [1], {}, {"a": 1}, {"a"}, {1},
    frozenset(), range(1), object(), object, len, ..., NotImplemented, 1j,
)

BOUND = 10 ** 12
# Values that are no books, marks and terms of a catalog with three marks.
NO_BOOKS = (
    (), (1,), (1, 2), (1, 2, 3, 4), [1, 2, 3], "123", (1, 2, "3"), ("1", 2, 3), (1, None, 3),
    (True, 1, 2), (1, 2, False), (BOUND + 1, 0, 0), (0, 0, -BOUND - 1), (1.0, 2, 3), (1, 2, 3.0),
    ((1, 2, 3),), (1, (2,), 3), ([1], 2, 3), ([], [], []), {1: 2, 3: 4, 5: 6}, {1, 2, 3}, 123,
    "top", *OTHER_KINDS,
)
NO_MARKS = (
    -1, 3, 8, 10 ** 30, -10 ** 30, "0", "a", (0,), (), (0, 1), 0.0, "", b"\x00", *OTHER_KINDS,
)
NO_TERMS = (
    (3, 1), (3, -1), (7, 1), (8, 1), (-1, 1), (10 ** 30, 1), (0, 0), (0, 2), (0, -2), (0, 10 ** 30),
    (0,), (), (0, 1, 1), ((0, 1),), [0, 1], (True, 1), (False, 1), (0, True), (1, False),
    (True, True), ([0], 1), (0, [1]), ([], []), "01", "a", (0.0, 1), (0, 1.0), ("a", 1), ("0", 1),
    (0, "asc"), (None, 1), (0, None), ({}, 1), 0, 1, -1, {0: 1}, *OTHER_KINDS,
)
# Values that are no spots of an evidence with a shelf called top with three books alone.
NO_SPOTS = (
    ("top", 3), ("top", -1), ("top", 10 ** 30), ("top", -10 ** 30), ("low", 0), ("", 0), ("?", 0),
    ("top", True), ("top", False), ("top", 0.0), ("top", "0"), ("top", None), ("top", (0,)),
    ("top", [0]), ["top", 0], "top", ("top",), ("top", 0, 1), (), (("top", 0),), (0, "top"),
    (None, 0), ([], 0), (["top"], 0), ({}, 0), (b"top", 0), (("top",), 0), 0, 1, *OTHER_KINDS,
)


class Hostile:
    """A value that cannot be compared, measured, iterated over or tested."""

    __hash__ = None

    def _fail(self, *rest):
        raise RuntimeError("this value was looked into")

    __eq__ = __ne__ = __lt__ = __le__ = __gt__ = __ge__ = _fail
    __len__ = __iter__ = __bool__ = __contains__ = __getitem__ = _fail
    __int__ = __index__ = __neg__ = __add__ = __radd__ = __sub__ = __rsub__ = _fail
    __str__ = __repr__ = _fail


def all_steps(count):
    """Return all tuples of `count` signs."""
    return list(product((-1, 0, 1), repeat=count))


def replaced(values, at, value):
    """Return the tuple of the values with another one at that place."""
    return (*values[:at], value, *values[at + 1:])


# What follows reads the definitions of the document plainly, without the program's own
# ways, so that the program can be held against it. Shelves are a dict of lists of books.

def evidence_of(count, shelves):
    """Return the evidence of these shelves, with a question shelf where one is named so."""
    evidence = Evidence(Catalog.numbered(count))
    for name, books in shelves.items():
        if name == "?":
            evidence = evidence.with_question(books)
        else:
            evidence = evidence.with_books(name, books)
    return evidence


def neighbours(shelves, absent=()):
    """Return the places of all neighbours that differ, in order."""
    found = []
    for name, books in shelves.items():
        there = [at for at in range(len(books)) if (name, at) not in absent]
        for i, j in combinations(there, 2):
            if not any(i < k < j for k in there) and books[i] != books[j]:
                found.append((name, i, j))
    return found


def order_by(terms, first, second):
    """Return -1, 1 or 0 as the first book comes before, after, or is left open."""
    for mark, direction in terms:
        if first[mark] != second[mark]:
            return -direction if first[mark] < second[mark] else direction
    return 0


def full_rules(count):
    """Return the terms of all full rules, ordered by the ranks of their terms."""
    found = [
        tuple(zip(marks, directions))
        for marks in permutations(range(count))
        for directions in product((1, -1), repeat=count)
    ]
    return sorted(found, key=lambda terms: [(mark, -direction) for mark, direction in terms])


def fitting_rules(count, shelves, absent=()):
    """Return the terms of all full rules that fit, ordered by the ranks of their terms."""
    pairs = [(shelves[name][i], shelves[name][j]) for name, i, j in neighbours(shelves, absent)]
    return [
        terms for terms in full_rules(count)
        if not any(order_by(terms, first, second) == 1 for first, second in pairs)
    ]


def agree(first, second, marks):
    """Return True if the two books agree on these marks."""
    return all(first[mark] == second[mark] for mark in marks)


def closing(term, used, shelves, absent=()):
    """Return the places that agree on the used marks and whose step the term is bad for."""
    mark, direction = term
    found = []
    for name, i, j in neighbours(shelves, absent):
        first, second = shelves[name][i], shelves[name][j]
        if agree(first, second, used) and (second[mark] - first[mark]) * direction < 0:
            found.append((name, i, j))
    return found


def open_behind(used, count, shelves, absent=()):
    """Return the terms that are open behind the used marks, in order."""
    return [
        (mark, direction) for mark in range(count) for direction in (1, -1)
        if mark not in used and not closing((mark, direction), used, shelves, absent)
    ]


def terms_of(count):
    """Return all terms in order."""
    return [(mark, direction) for mark in range(count) for direction in (1, -1)]


def blocks_behind(inside, marks, exits, count, shelves, absent=()):
    """Return the blocks for the terms of these marks that are no exits, with the first places."""
    return tuple(
        (term, closing(term, inside, shelves, absent)[0]) for term in terms_of(count)
        if term[0] in marks and term[0] not in inside and term not in exits
    )


def barrier_parts(exits, count, shelves, absent=()):
    """Return the parts of the barrier that is found step by step, or None."""
    inside = []
    while True:
        terms = [
            term for term in open_behind(inside, count, shelves, absent) if term not in exits
        ]
        if not terms:
            break
        # The last one, because the choice does not matter.
        inside.append(terms[-1][0])
    if len(inside) == count:
        return None
    outside = [term for term in terms_of(count) if term[0] not in inside]
    return (
        tuple(sorted(inside)),
        tuple(term for term in outside if term in exits),
        blocks_behind(inside, range(count), exits, count, shelves, absent),
    )


def parts_of(barrier):
    return (barrier.inside, barrier.exits, barrier.blocks)


def all_beginnings(count, shelves, absent=()):
    """Return all beginnings, shorter ones first, step by step."""
    found = last = [()]
    while last:
        last = [
            (*terms, term) for terms in last
            for term in open_behind([mark for mark, _ in terms], count, shelves, absent)
        ]
        found = found + last
    return found


def feasible_marks(count, shelves, absent=()):
    """Return the marks of the beginnings as ascending tuples, smaller ones first."""
    found = {
        tuple(sorted(mark for mark, _ in terms))
        for terms in all_beginnings(count, shelves, absent)
    }
    return sorted(found, key=lambda marks: (len(marks), marks))


def spots_of(shelves):
    """Return all spots, in order."""
    return [(name, at) for name, books in shelves.items() for at in range(len(books))]


def random_case(seed):
    """Return a number of marks, shelves, and a list of spots to leave out.

    Some of the shelves fit a rule, some of them almost, and some are in disorder.
    """
    chance = random.Random(seed)
    count = chance.choice((1, 2, 2, 3, 3, 3, 3, 4))
    most = chance.choice((1, 2, 5))
    rule = chance.choice(full_rules(count))
    swaps = chance.choice((0, 0, 1, 2, 5))
    shelves = {}
    for name in chance.sample(["top", "low", "mid", "?"], chance.choice((0, 1, 2, 2, 3))):
        books = [
            tuple(chance.randint(0, most) for _ in range(count))
            for _ in range(chance.randint(0, 7))
        ]
        books.sort(key=lambda book: [direction * book[mark] for mark, direction in rule])
        for at in [chance.randrange(7) for _ in range(swaps)]:
            books[at:at + 2] = reversed(books[at:at + 2])
        shelves[name] = books
    spots = spots_of(shelves)
    absent = [spot for spot in spots if chance.randrange(4) == 0] * chance.choice((0, 0, 1, 2))
    chance.shuffle(absent)
    return count, shelves, absent


def bounds_case(seed, most, swaps=0):
    """Return an evidence at the bounds of point 2, with values from 0 to `most`, and its rule.

    Without swaps, all shelves are sorted by the rule.
    """
    chance = random.Random(seed)
    rule = [(mark, chance.choice((1, -1))) for mark in chance.sample(range(8), 8)]
    evidence = Evidence(Catalog.numbered(8))
    for letter in "abcdefghijklmnopqrst":
        books = [tuple(chance.randint(0, most) for _ in range(8)) for _ in range(40)]
        books.sort(key=lambda book: [direction * book[mark] for mark, direction in rule])
        for at in [chance.randrange(39) for _ in range(swaps)]:
            books[at:at + 2] = reversed(books[at:at + 2])
        evidence = evidence.with_books("shelf" + letter, books)
    return evidence, rule


CASES = [random_case(seed) for seed in range(240)]


def listed_cases():
    """Return the number of marks, the shelves and the rules that fit them, case by case.

    Where a case leaves out spots, its shelves come twice, with and without these books.
    """
    found = []
    for count, shelves, absent in CASES:
        left = {
            name: [book for at, book in enumerate(books) if (name, at) not in absent]
            for name, books in shelves.items()
        }
        found.append((count, shelves, fitting_rules(count, shelves)))
        if left != shelves:
            found.append((count, left, fitting_rules(count, left)))
    return found


LISTED = listed_cases()
SOUND = [case for case in LISTED if case[2]]
UNSOUND = [(count, shelves) for count, shelves, rules in LISTED if not rules]


def book_near(chance, count, shelves):
    """Return a book of a shelf, such a book with another value, or any book of small values."""
    books = [book for shelf in shelves.values() for book in shelf]
    kind = chance.randrange(4)
    if not books or kind == 0:
        return tuple(chance.randint(-1, 3) for _ in range(count))
    book = chance.choice(books)
    if kind == 1:
        return book
    return replaced(book, chance.randrange(count), chance.randint(-1, 3))


def shown(paper):
    """Return the kind of a rule, a barrier or a gate, and its parts."""
    word = type(paper).__name__
    if word == "Rule":
        return (word, paper.terms)
    if word == "Gate":
        return (word, *parts_of(paper), paper.among, paper.place)
    return (word, *parts_of(paper))


def next_open(terms, allowed, count, shelves):
    """Return the least term that is open behind the marks of these terms and allowed, or None."""
    found = [
        term for term in open_behind([mark for mark, _ in terms], count, shelves)
        if allowed(term)
    ]
    return found[0] if found else None


def completed(terms, count, shelves):
    """Return the terms, followed by the least open term each time."""
    while len(terms) < count:
        terms = (*terms, next_open(terms, lambda term: True, count, shelves))
    return terms


class Asserts:
    """Comparisons that tell 1 from True, and lists from tuples."""

    def assert_raises(self, error, attributes, function, *arguments):
        """Fail unless the call raises just this error with just these attributes."""
        with self.assertRaises(error) as caught:
            function(*arguments)
        self.assertIs(type(caught.exception), error)
        for name, value in attributes.items():
            found = getattr(caught.exception, name)
            self.assertTrue(found is value or repr(found) == repr(value), (name, found))

    def assert_equal_both_ways(self, first, second, expected):
        self.assertIs(first == second, expected)
        self.assertIs(second == first, expected)
        self.assertIs(first != second, not expected)
        self.assertIs(second != first, not expected)

    def assert_same(self, actual, expected):
        # The text shows the kinds, too: 1 and True are equal, "1" and "True" are not.
        self.assertEqual(repr(actual), repr(expected))

    def assert_identical_items(self, actual, expected):
        self.assertIs(type(actual), tuple)
        self.assertEqual(len(actual), len(expected))
        for one, other in zip(actual, expected):
            self.assertIs(one, other)
