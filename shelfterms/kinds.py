"""Tests of values of any kind."""

from shelfterms.errors import InvalidBook, InvalidMark, InvalidTerm

LETTERS = "abcdefghijklmnopqrstuvwxyz"
LONGEST_NAME = 12


def is_name(value):
    """Return True if the value has the form of a mark name or a shelf name."""
    return (
        isinstance(value, str)
        and 1 <= len(value) <= LONGEST_NAME
        and all([letter in LETTERS for letter in value])
    )


def is_integer(value, least, most):
    """Return True if the value is an integer within the bounds."""
    # Python counts True and False among the integers, the document does not.
    return isinstance(value, int) and not isinstance(value, bool) and least <= value <= most


def is_term(value, count):
    """Return True if the value is a term of one of the first `count` marks."""
    return (
        isinstance(value, tuple)
        and len(value) == 2
        and is_integer(value[0], 0, count - 1)
        and is_integer(value[1], -1, 1)
        and value[1] != 0
    )


def check_books(books, catalog):
    """Raise InvalidBook for the first one that is no book of the catalog."""
    for book in books:
        if not catalog.is_book(book):
            raise InvalidBook(book)


def check_marks(marks, count):
    """Raise InvalidMark for the first one that is no mark or that occurs earlier."""
    for at, mark in enumerate(marks):
        if not is_integer(mark, 0, count - 1) or mark in marks[:at]:
            raise InvalidMark(mark)


def check_terms(terms, count):
    """Raise InvalidTerm for the first one that is no term or that occurs earlier."""
    for at, term in enumerate(terms):
        if not is_term(term, count) or term in terms[:at]:
            raise InvalidTerm(term)
