"""Catalogs: which marks the books have."""

from shelfterms.errors import InvalidBook, InvalidCatalog, UnknownMark
from shelfterms.kinds import is_integer, is_name

BOUND = 10 ** 12


class Catalog:
    """The names of the marks, in order."""

    MOST = 8

    def __init__(self, *names):
        if not 1 <= len(names) <= self.MOST or not _are_different_names(names):
            raise InvalidCatalog(names)
        self.names = names

    @classmethod
    def numbered(cls, count):
        """Return the catalog of the first `count` of the names a to h."""
        if not is_integer(count, 1, cls.MOST):
            raise InvalidCatalog(())
        names = "abcdefgh"[:count]
        return cls(*names)

    def __len__(self):
        return len(self.names)

    def __contains__(self, name):
        return name in self.names

    def __eq__(self, other):
        return isinstance(other, Catalog) and self.names == other.names

    def index_of(self, name):
        """Return the index of the mark of that name."""
        if name not in self.names:
            raise UnknownMark(name)
        return self.names.index(name)

    def is_book(self, value):
        """Return True if the value, which may be of any kind, is a book of this catalog."""
        return (
            isinstance(value, tuple)
            and len(value) == len(self.names)
            and all([is_integer(number, -BOUND, BOUND) for number in value])
        )

    def make_book(self, *values, **named):
        """Return the book with these values, the later ones by the names of their marks."""
        others = self.names[len(values):]
        book = values + tuple([named.get(name) for name in others])
        # A mark without a value has None here, which is in no book. If all others
        # have one, equal lengths leave no room for any further keyword.
        if len(named) != len(others) or not self.is_book(book):
            raise InvalidBook(values)
        return book


def _are_different_names(values):
    return all([is_name(value) for value in values]) and len(set(values)) == len(values)
