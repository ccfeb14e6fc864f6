"""Rules: by which marks books are sorted."""

from shelfterms.catalog import Catalog
from shelfterms.errors import InvalidRule, InvalidText, Unsorted
from shelfterms.kinds import is_term
from shelfterms.steps import written_term

DIRECTIONS = {"asc": 1, "desc": -1}


class Rule:
    """A sequence of terms with different marks; called with a book, it returns its key."""

    def __init__(self, *terms):
        if not _are_terms_of_a_rule(terms):
            raise InvalidRule(terms)
        self.terms = terms

    @staticmethod
    def ascending(*marks):
        """Return the rule with these marks, all ascending."""
        terms = [(mark, 1) for mark in marks]
        return Rule(*terms)

    @classmethod
    def listed(cls, terms):
        """Return the rule with the terms of the list."""
        return cls(*terms)

    @classmethod
    def read(cls, catalog, text):
        """Return the rule that the text writes."""
        terms = []
        for at, part in enumerate(_parts(text), start=1):
            term = _read_term(catalog, part)
            if term is None or term[0] in [mark for mark, _ in terms]:
                raise InvalidText(at)
            terms.append(term)
        return cls(*terms)

    @property
    def marks(self):
        """The tuple of the marks, in order."""
        return tuple([mark for mark, _ in self.terms])

    def direction_of(self, mark):
        """Return the direction of the mark, or 0 if the rule does not have it."""
        for other, direction in self.terms:
            if other == mark:
                return direction
        return 0

    def compare(self, first, second):
        """Return -1 or 1 as the first book comes before or after the second, else 0."""
        for mark, direction in self.terms:
            if first[mark] != second[mark]:
                return -direction if first[mark] < second[mark] else direction
        return 0

    def arranged(self, books):
        """Return the list of the books sorted by the rule."""
        return sorted(books, key=lambda book: self(book))

    def merged(self, *shelves):
        """Return one sorted list of the books of several sorted lists."""
        books = []
        for at, shelf in enumerate(shelves):
            index = self._first_unsorted(shelf)
            if index is not None:
                raise Unsorted(at, index)
            books.extend(shelf)
        # Sorting keeps the order of books that the rule leaves open.
        return self.arranged(books)

    def _first_unsorted(self, books):
        for index in range(len(books) - 1):
            if self.compare(books[index], books[index + 1]) == 1:
                return index
        return None

    def written(self, catalog):
        """Return the rule as text."""
        return ", ".join([written_term(catalog, term) for term in self.terms])

    def __call__(self, book):
        return tuple([direction * book[mark] for mark, direction in self.terms])

    def __len__(self):
        return len(self.terms)

    def __contains__(self, mark):
        return mark in self.marks

    def __eq__(self, other):
        return isinstance(other, Rule) and self.terms == other.terms

    def __neg__(self):
        terms = [(mark, -direction) for mark, direction in self.terms]
        return Rule(*terms)

    def __add__(self, other):
        more = [term for term in other.terms if term[0] not in self.marks]
        terms = [*self.terms, *more]
        return Rule(*terms)


def _are_terms_of_a_rule(values):
    if not all([is_term(value, Catalog.MOST) for value in values]):
        return False
    return len(set([mark for mark, _ in values])) == len(values)


def _parts(text):
    # The empty text writes the rule without terms; any other empty part is wrong.
    return text.split(", ") if text != "" else []


def _read_term(catalog, part):
    """Return the term that the part writes, or None if it writes none."""
    words = part.split(" ")
    if len(words) != 2 or words[0] not in catalog or words[1] not in DIRECTIONS:
        return None
    return (catalog.index_of(words[0]), DIRECTIONS[words[1]])
