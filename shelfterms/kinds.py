"""Tests of values of any kind."""

LETTERS = "abcdefghijklmnopqrstuvwxyz"
LONGEST_NAME = 12


def is_name(value):
    """Return True if the value has the form of a mark name or a shelf name."""
    return (
        isinstance(value, str)
        and 1 <= len(value) <= LONGEST_NAME
        and all([letter in LETTERS for letter in value])
    )


def is_integer(value, least, most):
    """Return True if the value is an integer within the bounds."""
    # Python counts True and False among the integers, the document does not.
    return isinstance(value, int) and not isinstance(value, bool) and least <= value <= most
