"""A library: an evidence that changes by deeds, which can be undone."""

from shelfterms.answers import order_of
from shelfterms.errors import (
    InvalidDeed, InvalidSetting, NothingToRedo, NothingToUndo, OutOfRange,
)
from shelfterms.evidence import Evidence
from shelfterms.family import Family
from shelfterms.kinds import check_books, is_integer
from shelfterms.numbering import Numbering

# The lengths of the deeds; a deed that puts a shelf may be longer.
LENGTHS = {"put": 2, "insert": 4, "take": 3, "drop": 2}


class Library:
    """The present evidence, what can be undone and redone, and the watches."""

    def __init__(self, catalog):
        self._past = []
        self._future = []
        self._strict = False
        self._pairs = []
        self._states = []
        self._enter(Evidence(catalog))

    @property
    def evidence(self):
        """The present evidence."""
        return self._evidence

    @property
    def rules_left(self):
        """The number of rules that fit the present evidence."""
        return self._rules_left

    @property
    def undo_depth(self):
        """The number of deeds that can be undone."""
        return len(self._past)

    @property
    def redo_depth(self):
        """The number of deeds that can be redone."""
        return len(self._future)

    @property
    def strict(self):
        """True if the library refuses what no rule fits."""
        return self._strict

    @strict.setter
    def strict(self, value):
        if value is not True and value is not False:
            raise InvalidSetting(value)
        if value:
            Family(self._evidence).check_sound()
        self._strict = value

    def set_strict(self, value):
        """Assign `strict`."""
        self.strict = value

    def put(self, name, *books):
        """Add a shelf."""
        self._do([("put", name, *books)])

    def insert(self, name, at, book):
        """Insert the book ahead of the one at the index, or at the end."""
        self._do([("insert", name, at, book)])

    def take(self, name, at):
        """Remove the book at the index."""
        self._do([("take", name, at)])

    def drop(self, name):
        """Remove the shelf."""
        self._do([("drop", name)])

    def run(self, *deeds):
        """Do several deeds, all or none, as one deed."""
        _check_deeds(deeds)
        if deeds:
            self._do(deeds)

    def probe(self, *deeds):
        """Return the number of rules that would fit after the deeds."""
        _check_deeds(deeds)
        return Numbering(_after_deeds(self._evidence, deeds)).total

    def undo(self):
        """Take back the last deed that was not undone."""
        if not self._past:
            raise NothingToUndo()
        present = self._evidence
        self._enter(self._past[-1])
        self._past.pop()
        self._future.append(present)

    def redo(self):
        """Do again the deed that was undone last."""
        if not self._future:
            raise NothingToRedo()
        present = self._evidence
        self._enter(self._future[-1])
        self._future.pop()
        self._past.append(present)

    def watch(self, first, second):
        """Begin to watch two books, and return the number of the watch."""
        check_books([first, second], self._evidence.catalog)
        self._pairs.append((first, second))
        self._states.append(self._state(first, second))
        return len(self._pairs) - 1

    def news(self):
        """Return the list of the watches whose state has changed, each with both states."""
        states = [self._state(first, second) for first, second in self._pairs]
        found = [
            (number, old, new) for number, (old, new) in enumerate(zip(self._states, states))
            if old != new
        ]
        self._states = states
        return found

    def _do(self, deeds):
        present = self._evidence
        self._enter(_after_deeds(present, deeds))
        self._past.append(present)
        self._future = []

    def _enter(self, evidence):
        """Make this the present evidence, if the library may be in it."""
        if self._strict:
            Family(evidence).check_sound()
        self._evidence = evidence
        self._rules_left = Numbering(evidence).total

    def _state(self, first, second):
        if self._rules_left == 0:
            return "none"
        return order_of(self._evidence, first, second).word


def _check_deeds(deeds):
    for index, deed in enumerate(deeds):
        if not _is_deed(deed):
            raise InvalidDeed(index)


def _is_deed(value):
    if not isinstance(value, tuple) or len(value) == 0:
        return False
    word = value[0]
    if not isinstance(word, str) or word not in LENGTHS:
        return False
    return len(value) == LENGTHS[word] or word == "put" and len(value) > LENGTHS[word]


def _after_deeds(evidence, deeds):
    """Return the evidence after the deeds, which are done in order."""
    for deed in deeds:
        evidence = _after_deed(evidence, deed)
    return evidence


def _after_deed(evidence, deed):
    word, name, *values = deed
    if word == "put":
        return evidence.with_books(name, values)
    if word == "insert":
        return _with_book(evidence, name, values[0], values[1])
    if word == "take":
        return _without_book(evidence, name, values[0])
    return evidence.without_shelf(name)


def _with_book(evidence, name, at, book):
    books = evidence[name]
    if not is_integer(at, 0, len(books)):
        raise OutOfRange(at)
    check_books([book], evidence.catalog)
    return evidence.with_shelf_changed(name, [*books[:at], book, *books[at:]])


def _without_book(evidence, name, at):
    books = evidence[name]
    if not is_integer(at, 0, len(books) - 1):
        raise OutOfRange(at)
    return evidence.with_shelf_changed(name, [*books[:at], *books[at + 1:]])
