"""Evidences as text, and the chart of their steps."""

from shelfterms.catalog import BOUND, Catalog
from shelfterms.errors import InvalidCatalog, InvalidText
from shelfterms.evidence import Evidence
from shelfterms.kinds import is_name

DIGITS = "0123456789"
SIGNS = {1: "<", 0: "=", -1: ">"}


def write_evidence(evidence):
    """Return the evidence as text."""
    lines = [" ".join(["marks", *evidence.catalog.names])]
    for name in evidence.shelf_names:
        lines.append(f"shelf {name}")
        for book in evidence[name]:
            lines.append(" ".join([str(number) for number in book]))
    return "\n".join(lines)


def read_evidence(text):
    """Return the evidence that the text writes."""
    lines = text.split("\n")
    catalog = _read_catalog(lines[0])
    shelves = {}
    books = None
    for at, line in enumerate(lines[1:], start=2):
        name = _read_shelf_name(line)
        if name is not None and name not in shelves:
            books = []
            shelves[name] = books
        else:
            book = _read_book(line)
            if books is None or not catalog.is_book(book):
                raise InvalidText(at)
            books.append(book)
    evidence = Evidence(catalog)
    for name, found in shelves.items():
        evidence = evidence.with_books(name, found)
    return evidence


def chart(evidence):
    """Return the list with a line for the step of each place."""
    return [_written_step(place, evidence.step(place)) for place in evidence.places()]


def _written_step(place, step):
    name, i, j = place
    signs = "".join([SIGNS[sign] for sign in step])
    return f"{name:<12} {i:>3} {j:>3} {signs}"


def _read_catalog(line):
    """Return the catalog that the first line writes."""
    word, *names = line.split(" ")
    if word != "marks":
        raise InvalidText(1)
    try:
        return Catalog(*names)
    except InvalidCatalog:
        raise InvalidText(1)


def _read_shelf_name(line):
    """Return the name of the shelf that the line begins, or None."""
    words = line.split(" ")
    if len(words) != 2 or words[0] != "shelf" or not is_name(words[1]):
        return None
    return words[1]


def _read_book(line):
    """Return the tuple of the integers on the line, with None for each other word."""
    return tuple([_read_integer(word) for word in line.split(" ")])


def _read_integer(word):
    """Return the integer that the word writes, or None if it writes none within the bounds."""
    digits = word.removeprefix("-")
    # So the length tells at once that there are too many digits.
    if not 1 <= len(digits) <= len(str(BOUND)):
        return None
    if not all([digit in DIGITS for digit in digits]) or str(int(word)) != word:
        return None
    return int(word)
