"""What several tests share."""

from itertools import product

NAMES = ("a", "b", "c", "d", "e", "f", "g", "h")

# Values that are neither a string nor an integer nor a tuple of integers.
OTHER_KINDS = (
    None, True, False, 1.0, 2.5, b"a", [], ["a"], [1], {}, {"a": 1}, {"a"}, {1},
    frozenset(), range(1), object(), object, len, ..., NotImplemented, 1j,
)


class Hostile:
    """A value that cannot be compared, measured, iterated over or tested."""

    __hash__ = None

    def _fail(self, *rest):
        raise RuntimeError("this value was looked into")

    __eq__ = __ne__ = __lt__ = __le__ = __gt__ = __ge__ = _fail
    __len__ = __iter__ = __bool__ = __contains__ = __getitem__ = _fail
    __int__ = __index__ = __neg__ = __add__ = __radd__ = __sub__ = __rsub__ = _fail
    __str__ = __repr__ = _fail


def all_steps(count):
    """Return all tuples of `count` signs."""
    return list(product((-1, 0, 1), repeat=count))


def replaced(values, at, value):
    """Return the tuple of the values with another one at that place."""
    return (*values[:at], value, *values[at + 1:])


class Asserts:
    """Comparisons that tell 1 from True, and lists from tuples."""

    def assert_same(self, actual, expected):
        # The text shows the kinds, too: 1 and True are equal, "1" and "True" are not.
        self.assertEqual(repr(actual), repr(expected))

    def assert_identical_items(self, actual, expected):
        self.assertIs(type(actual), tuple)
        self.assertEqual(len(actual), len(expected))
        for one, other in zip(actual, expected):
            self.assertIs(one, other)
