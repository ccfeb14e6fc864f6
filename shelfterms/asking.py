"""What to ask next about a few books, and what the answers may be."""

from shelfterms.family import sound_family
from shelfterms.kinds import check_books
from shelfterms.numbering import ways_on


class Plan:
    """The base class of the trees of questions."""


class Leaf(Plan):
    """No question is left: the rules agree about the arrangement."""

    def __init__(self, arrangement):
        self.arrangement = arrangement

    def follow(self, rule):
        """Return the arrangement to which the rule leads."""
        return self.arrangement

    def deepest(self):
        """Return the greatest number of forks on a way to a leaf."""
        return 0

    def arrangements(self):
        """Return the list of the arrangements of all leaves."""
        return [self.arrangement]


class Fork(Plan):
    """The question which of two books comes first, with a tree for each answer."""

    def __init__(self, books, first, second, before, after):
        self.books = books
        self.first = first
        self.second = second
        self.before = before
        self.after = after

    def follow(self, rule):
        """Return the arrangement to which the rule leads."""
        if rule.compare(self.books[self.first], self.books[self.second]) == 1:
            return self.after.follow(rule)
        return self.before.follow(rule)

    def deepest(self):
        """Return the greatest number of forks on a way to a leaf."""
        return 1 + max(self.before.deepest(), self.after.deepest())

    def arrangements(self):
        """Return the list of the arrangements of all leaves, those of `before` first."""
        return [*self.before.arrangements(), *self.after.arrangements()]


def outcomes(evidence, books):
    """Return the list of the possible arrangements, each with the number of its rules."""
    check_books(books, evidence.catalog)
    return _outcomes(_sound_ways(evidence), books)


def worst(evidence, books):
    """Return how many rules are left at most when somebody sorts the books."""
    return _greatest(outcomes(evidence, books))


def best(evidence, *groups):
    """Return the index of the first list of books with the least worst, or None."""
    check_books([book for books in groups for book in books], evidence.catalog)
    ways = _sound_ways(evidence)
    left = [_greatest(_outcomes(ways, books)) for books in groups]
    return left.index(min(left)) if left else None


def plan(evidence, books):
    """Return a tree of questions that finds the arrangement of the books."""
    return _tree(tuple(books), outcomes(evidence, books))


def _sound_ways(evidence):
    return ways_on(sound_family(evidence), len(evidence.catalog))


def _greatest(found):
    return max([many for _, many in found])


def _outcomes(ways, books):
    """Return the pairs of an arrangement and the number of its rules, in order.

    A row of groups has all indices of the books in the order of some beginning; the books
    of one group are still open. Beginnings with the same marks and row are counted as one.
    """
    counts = {}
    rows = {marks: {} for marks in ways}
    rows[()] = {(tuple(range(len(books))),): 1}
    for marks in reversed(list(ways)):
        # Behind all marks nothing follows, and each beginning is a rule.
        left = max(1, sum([many for _, _, many in ways[marks]]))
        for groups, begun in list(rows[marks].items()):
            if _is_arranged(groups, books):
                _add(counts, tuple([at for group in groups for at in group]), begun * left)
            else:
                for term, larger, _ in ways[marks]:
                    _add(rows[larger], _split(groups, books, term), begun)
    return sorted(counts.items())


def _add(counts, row, many):
    counts[row] = counts.get(row, 0) + many


def _is_arranged(groups, books):
    """Return True if each group has equal books alone."""
    return all([books[at] == books[group[0]] for group in groups for at in group])


def _split(groups, books, term):
    """Return the groups, each cut into the groups into which the term sorts it."""
    mark, direction = term
    found = []
    for group in groups:
        values = sorted(set([direction * books[at][mark] for at in group]))
        for value in values:
            found.append(tuple([at for at in group if direction * books[at][mark] == value]))
    return tuple(found)


def _tree(books, found):
    """Return the tree of questions for the arrangements that are still possible."""
    if len(found) == 1:
        return Leaf(found[0][0])
    first, second = _pair_to_ask(found, len(books))
    before, after = _answers(found, first, second)
    return Fork(books, first, second, _tree(books, before), _tree(books, after))


def _pair_to_ask(found, count):
    """Return the first of the pairs whose greater answer leaves the fewest rules."""
    pairs = [(first, second) for first in range(count) for second in range(first + 1, count)]
    # A pair with one possible answer leaves all rules, and so more than a pair with two.
    return min(pairs, key=lambda pair: _left_at_most(found, pair))


def _left_at_most(found, pair):
    before, after = _answers(found, pair[0], pair[1])
    return max(_total(before), _total(after))


def _answers(found, first, second):
    """Return the outcomes in which the first book stands before the second, and the others."""
    before = [
        outcome for outcome in found if outcome[0].index(first) < outcome[0].index(second)
    ]
    after = [
        outcome for outcome in found if outcome[0].index(first) > outcome[0].index(second)
    ]
    return before, after


def _total(found):
    return sum([many for _, many in found])
