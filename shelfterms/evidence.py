"""Evidence: the shelves that were seen."""

from shelfterms.errors import (
    DuplicateShelf, InvalidName, InvalidPlace, InvalidSpot, UnknownShelf, UnlikeCatalogs,
)
from shelfterms.kinds import check_books, is_integer, is_name
from shelfterms.steps import step_between


class Evidence:
    """A catalog and a sequence of named shelves; it never changes."""

    QUESTION = "?"

    def __init__(self, catalog):
        self.catalog = catalog
        self._shelves = {}

    @classmethod
    def of(cls, catalog, **shelves):
        """Return the evidence with one shelf for each keyword."""
        evidence = cls(catalog)
        for name, books in shelves.items():
            evidence = evidence.with_books(name, books)
        return evidence

    @property
    def shelf_names(self):
        """The tuple of the names of the shelves, in order."""
        return tuple(self._shelves)

    def with_shelf(self, name, *books):
        """Return the evidence with one more shelf behind the others."""
        return self.with_books(name, books)

    def with_books(self, name, books):
        """Return the evidence with one more shelf, which has the books of the list."""
        if not is_name(name):
            raise InvalidName(name)
        return self._with_more(name, books)

    def with_question(self, books):
        """Return the evidence with the assumption that these books are sorted."""
        return self._with_more(self.QUESTION, books)

    def without_shelf(self, name):
        """Return the evidence without that shelf."""
        if name not in self:
            raise UnknownShelf(name)
        return self._with_shelves({
            other: books for other, books in self._shelves.items() if other != name
        })

    def with_shelf_changed(self, name, books):
        """Return the evidence in which that shelf has the books of the list instead of its own."""
        return self._with_shelves({**self._shelves, name: tuple(books)})

    def _with_more(self, name, books):
        if name in self:
            raise DuplicateShelf(name)
        check_books(books, self.catalog)
        return self._with_shelves({**self._shelves, name: tuple(books)})

    def _with_shelves(self, shelves):
        evidence = Evidence(self.catalog)
        evidence._shelves = shelves
        return evidence

    def all_spots(self):
        """Yield all spots, shelf by shelf."""
        for name, books in self._shelves.items():
            for index in range(len(books)):
                yield (name, index)

    def places(self, spots=()):
        """Yield the places of all neighbours that differ, where the spots are left out."""
        self.check_spots(spots)
        absent = set(spots)
        for name, books in self._shelves.items():
            there = [index for index in range(len(books)) if (name, index) not in absent]
            for i, j in zip(there, there[1:]):
                if books[i] != books[j]:
                    yield (name, i, j)

    def spots_of(self, found):
        """Return the list of the spots of these places, each once, in the order of all spots."""
        ends = set([spot for name, i, j in found for spot in ((name, i), (name, j))])
        return [spot for spot in self.all_spots() if spot in ends]

    def check_spots(self, spots):
        """Raise InvalidSpot for the first one that is no spot of this evidence."""
        for spot in spots:
            if not self._is_spot(spot):
                raise InvalidSpot(spot)

    def pair(self, place):
        """Return the two books of the place."""
        if not self.has_place(place):
            raise InvalidPlace(place)
        name, i, j = place
        return (self[name][i], self[name][j])

    def step(self, place):
        """Return the step between the two books of the place."""
        earlier, later = self.pair(place)
        return step_between(earlier, later)

    def fits(self, rule):
        """Return True if the rule puts no neighbours the other way round."""
        return self.fault(rule) is None

    def explains(self, rule):
        """Return True if the rule puts all neighbours that differ as they stand."""
        return all([self._compared(rule, place) == -1 for place in self.places()])

    def fault(self, rule):
        """Return the first place that the rule puts the other way round, or None."""
        for place in self.places():
            if self._compared(rule, place) == 1:
                return place
        return None

    def _compared(self, rule, place):
        first, second = self.pair(place)
        return rule.compare(first, second)

    def _is_spot(self, value):
        if not isinstance(value, tuple) or len(value) != 2:
            return False
        name, index = value
        return self._has_shelf(name) and is_integer(index, 0, len(self[name]) - 1)

    def has_place(self, value):
        """Return True if the value, which may be of any kind, is a place of this evidence."""
        if not isinstance(value, tuple) or len(value) != 3:
            return False
        name, i, j = value
        return (
            self._has_shelf(name)
            and is_integer(j, 0, len(self[name]) - 1)
            and is_integer(i, 0, j - 1)
        )

    def _has_shelf(self, value):
        return isinstance(value, str) and value in self

    def __getitem__(self, name):
        if name not in self:
            raise UnknownShelf(name)
        return self._shelves[name]

    def __iter__(self):
        raise TypeError("an evidence is asked for its shelves by name")

    def __len__(self):
        return len(self._shelves)

    def __contains__(self, name):
        return name in self._shelves

    def __eq__(self, other):
        return (
            isinstance(other, Evidence)
            and self.catalog == other.catalog
            and self.shelf_names == other.shelf_names
            and self._shelves == other._shelves
        )

    def __add__(self, other):
        if self.catalog != other.catalog:
            raise UnlikeCatalogs()
        for name in other.shelf_names:
            if name in self:
                raise DuplicateShelf(name)
        return self._with_shelves({**self._shelves, **other._shelves})
