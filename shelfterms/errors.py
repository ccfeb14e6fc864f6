"""The errors of the program.

The messages do not show the values that an error carries: these may be of any
kind, and some of them cannot be written as text at all.
"""


class ShelfError(ValueError):
    """The base class of all errors of the program."""


class InvalidCatalog(ShelfError):
    """`names` are not the names of a catalog."""

    def __init__(self, names):
        super().__init__("a catalog has 1 to 8 different names of 1 to 12 letters from a to z")
        self.names = names


class UnknownMark(ShelfError):
    """The catalog has no mark called `name`."""

    def __init__(self, name):
        super().__init__("the catalog has no mark of this name")
        self.name = name


class InvalidBook(ShelfError):
    """`book` is not a book of the catalog."""

    def __init__(self, book):
        super().__init__("a book is a tuple of integers within the bounds, one for each mark")
        self.book = book


class InvalidRule(ShelfError):
    """`terms` are not the terms of a rule."""

    def __init__(self, terms):
        super().__init__("a rule consists of terms with different marks")
        self.terms = terms


class InvalidTerm(ShelfError):
    """`term` is not a term, or not one that may stand there."""

    def __init__(self, term):
        super().__init__("this is not a term, or it occurs twice")
        self.term = term


class InvalidMark(ShelfError):
    """`mark` is not a mark, or not one that may stand there."""

    def __init__(self, mark):
        super().__init__("this is not a mark of the catalog, or it occurs twice")
        self.mark = mark


class InvalidText(ShelfError):
    """The part or the line with the number `at`, counted from 1, is wrong."""

    def __init__(self, at):
        super().__init__("the text is wrong")
        self.at = at


class Unsorted(ShelfError):
    """On the shelf number `shelf` the book at `index` comes after the next one."""

    def __init__(self, shelf, index):
        super().__init__("a shelf is not sorted by the rule")
        self.shelf = shelf
        self.index = index


class InvalidName(ShelfError):
    """`name` is not a shelf name."""

    def __init__(self, name):
        super().__init__("a shelf name consists of 1 to 12 letters from a to z")
        self.name = name


class DuplicateShelf(ShelfError):
    """There is a shelf called `name` already."""

    def __init__(self, name):
        super().__init__("there is a shelf of this name already")
        self.name = name


class UnknownShelf(ShelfError):
    """There is no shelf called `name`."""

    def __init__(self, name):
        super().__init__("there is no shelf of this name")
        self.name = name


class UnlikeCatalogs(ShelfError):
    """Two evidences have different catalogs."""

    def __init__(self):
        super().__init__("the catalogs are not equal")


class InvalidSpot(ShelfError):
    """`spot` does not name a book of a shelf."""

    def __init__(self, spot):
        super().__init__("a spot names one book of a shelf")
        self.spot = spot


class InvalidPlace(ShelfError):
    """`place` does not name two books of a shelf."""

    def __init__(self, place):
        super().__init__("a place names two books of one shelf")
        self.place = place


class InvalidBeginning(ShelfError):
    """The term at the index `at` is not open behind the terms before it."""

    def __init__(self, at):
        super().__init__("the terms are not a beginning")
        self.at = at


class NoRule(ShelfError):
    """No rule fits; `barrier` shows why."""

    def __init__(self, barrier):
        super().__init__("no rule fits the evidence")
        self.barrier = barrier


class Undecided(ShelfError):
    """The books at the indices `first` and `second` may stand either way."""

    def __init__(self, first, second):
        super().__init__("two books may stand either way")
        self.first = first
        self.second = second


class OutOfRange(ShelfError):
    """`number` lies beyond its bounds."""

    def __init__(self, number):
        super().__init__("a number lies beyond its bounds")
        self.number = number


class NotFitting(ShelfError):
    """`rule` is not a full rule that fits."""

    def __init__(self, rule):
        super().__init__("this is not a full rule that fits")
        self.rule = rule


class InvalidDeed(ShelfError):
    """The argument at `index` is not a deed."""

    def __init__(self, index):
        super().__init__("an argument is not a deed")
        self.index = index


class NothingToUndo(ShelfError):
    """There is no deed that can be undone."""

    def __init__(self):
        super().__init__("there is nothing to undo")


class NothingToRedo(ShelfError):
    """There is no deed that can be done again."""

    def __init__(self):
        super().__init__("there is nothing to redo")


class InvalidSetting(ShelfError):
    """`value` is neither True nor False."""

    def __init__(self, value):
        super().__init__("the setting is neither True nor False")
        self.value = value
