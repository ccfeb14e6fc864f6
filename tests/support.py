"""What several tests share."""

import random
from itertools import combinations, permutations, product

from shelfterms.catalog import Catalog
from shelfterms.evidence import Evidence

NAMES = ("a", "b", "c", "d", "e", "f", "g", "h")

# Values that are neither a string nor an integer nor a tuple of integers.
OTHER_KINDS = (
    None, True, False, 1.0, 2.5, b"a", [], ["a"], [1], {}, {"a": 1}, {"a"}, {1},
    frozenset(), range(1), object(), object, len, ..., NotImplemented, 1j,
)


class Hostile:
    """A value that cannot be compared, measured, iterated over or tested."""

    __hash__ = None

    def _fail(self, *rest):
        raise RuntimeError("this value was looked into")

    __eq__ = __ne__ = __lt__ = __le__ = __gt__ = __ge__ = _fail
    __len__ = __iter__ = __bool__ = __contains__ = __getitem__ = _fail
    __int__ = __index__ = __neg__ = __add__ = __radd__ = __sub__ = __rsub__ = _fail
    __str__ = __repr__ = _fail


def all_steps(count):
    """Return all tuples of `count` signs."""
    return list(product((-1, 0, 1), repeat=count))


def replaced(values, at, value):
    """Return the tuple of the values with another one at that place."""
    return (*values[:at], value, *values[at + 1:])


# What follows reads the definitions of the document plainly, without the program's own
# ways, so that the program can be held against it. Shelves are a dict of lists of books.

def evidence_of(count, shelves):
    """Return the evidence of these shelves, with a question shelf where one is named so."""
    evidence = Evidence(Catalog.numbered(count))
    for name, books in shelves.items():
        if name == "?":
            evidence = evidence.with_question(books)
        else:
            evidence = evidence.with_books(name, books)
    return evidence


def neighbours(shelves, absent=()):
    """Return the places of all neighbours that differ, in order."""
    found = []
    for name, books in shelves.items():
        there = [at for at in range(len(books)) if (name, at) not in absent]
        for i, j in combinations(there, 2):
            if not any(i < k < j for k in there) and books[i] != books[j]:
                found.append((name, i, j))
    return found


def order_by(terms, first, second):
    """Return -1, 1 or 0 as the first book comes before, after, or is left open."""
    for mark, direction in terms:
        if first[mark] != second[mark]:
            return -direction if first[mark] < second[mark] else direction
    return 0


def full_rules(count):
    """Return the terms of all full rules, ordered by the ranks of their terms."""
    found = [
        tuple(zip(marks, directions))
        for marks in permutations(range(count))
        for directions in product((1, -1), repeat=count)
    ]
    return sorted(found, key=lambda terms: [(mark, -direction) for mark, direction in terms])


def fitting_rules(count, shelves, absent=()):
    """Return the terms of all full rules that fit, ordered by the ranks of their terms."""
    pairs = [(shelves[name][i], shelves[name][j]) for name, i, j in neighbours(shelves, absent)]
    return [
        terms for terms in full_rules(count)
        if not any(order_by(terms, first, second) == 1 for first, second in pairs)
    ]


def agree(first, second, marks):
    """Return True if the two books agree on these marks."""
    return all(first[mark] == second[mark] for mark in marks)


def closing(term, used, shelves, absent=()):
    """Return the places that agree on the used marks and whose step the term is bad for."""
    mark, direction = term
    found = []
    for name, i, j in neighbours(shelves, absent):
        first, second = shelves[name][i], shelves[name][j]
        if agree(first, second, used) and (second[mark] - first[mark]) * direction < 0:
            found.append((name, i, j))
    return found


def open_behind(used, count, shelves, absent=()):
    """Return the terms that are open behind the used marks, in order."""
    return [
        (mark, direction) for mark in range(count) for direction in (1, -1)
        if mark not in used and not closing((mark, direction), used, shelves, absent)
    ]


def all_beginnings(count, shelves, absent=()):
    """Return all beginnings, shorter ones first, step by step."""
    found = last = [()]
    while last:
        last = [
            (*terms, term) for terms in last
            for term in open_behind([mark for mark, _ in terms], count, shelves, absent)
        ]
        found = found + last
    return found


def feasible_marks(count, shelves, absent=()):
    """Return the marks of the beginnings as ascending tuples, smaller ones first."""
    found = {
        tuple(sorted(mark for mark, _ in terms))
        for terms in all_beginnings(count, shelves, absent)
    }
    return sorted(found, key=lambda marks: (len(marks), marks))


def spots_of(shelves):
    """Return all spots, in order."""
    return [(name, at) for name, books in shelves.items() for at in range(len(books))]


def random_case(seed):
    """Return a number of marks, shelves, and a list of spots to leave out.

    Some of the shelves fit a rule, some of them almost, and some are in disorder.
    """
    chance = random.Random(seed)
    count = chance.choice((1, 2, 2, 3, 3, 3, 3, 4))
    most = chance.choice((1, 2, 5))
    rule = chance.choice(full_rules(count))
    swaps = chance.choice((0, 0, 1, 2, 5))
    shelves = {}
    for name in chance.sample(["top", "low", "mid", "?"], chance.choice((0, 1, 2, 2, 3))):
        books = [
            tuple(chance.randint(0, most) for _ in range(count))
            for _ in range(chance.randint(0, 7))
        ]
        books.sort(key=lambda book: [direction * book[mark] for mark, direction in rule])
        for at in [chance.randrange(7) for _ in range(swaps)]:
            books[at:at + 2] = reversed(books[at:at + 2])
        shelves[name] = books
    spots = spots_of(shelves)
    absent = [spot for spot in spots if chance.randrange(4) == 0] * chance.choice((0, 0, 1, 2))
    chance.shuffle(absent)
    return count, shelves, absent


CASES = [random_case(seed) for seed in range(240)]


class Asserts:
    """Comparisons that tell 1 from True, and lists from tuples."""

    def assert_raises(self, error, attributes, function, *arguments):
        """Fail unless the call raises just this error with just these attributes."""
        with self.assertRaises(error) as caught:
            function(*arguments)
        self.assertIs(type(caught.exception), error)
        for name, value in attributes.items():
            found = getattr(caught.exception, name)
            self.assertTrue(found is value or repr(found) == repr(value), (name, found))

    def assert_equal_both_ways(self, first, second, expected):
        self.assertIs(first == second, expected)
        self.assertIs(second == first, expected)
        self.assertIs(first != second, not expected)
        self.assertIs(second != first, not expected)

    def assert_same(self, actual, expected):
        # The text shows the kinds, too: 1 and True are equal, "1" and "True" are not.
        self.assertEqual(repr(actual), repr(expected))

    def assert_identical_items(self, actual, expected):
        self.assertIs(type(actual), tuple)
        self.assertEqual(len(actual), len(expected))
        for one, other in zip(actual, expected):
            self.assertIs(one, other)
