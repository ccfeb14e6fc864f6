"""The numbers of the rules that fit: they are counted, not listed."""

from shelfterms.errors import NotFitting, OutOfRange
from shelfterms.family import Family
from shelfterms.kinds import check_books
from shelfterms.rules import Rule
from shelfterms.steps import step_between


class Numbering:
    """All rules that fit an evidence, ordered by the ranks of their terms."""

    def __init__(self, evidence):
        self._catalog = evidence.catalog
        # How a rule goes on depends on the marks before alone, whatever their order is.
        self._ways = ways_on(Family(evidence), len(evidence.catalog))
        self.total = sum([many for _, _, many in self._ways[()]])

    def rule_at(self, number):
        """Return the rule with that number."""
        if not 0 <= number < self.total:
            raise OutOfRange(number)
        terms = []
        marks = ()
        left = number
        while len(marks) < len(self._catalog):
            at = self._chosen(marks, left)
            left = left - self._many_before(marks, at)
            term, marks, _ = self._ways[marks][at]
            terms.append(term)
        return Rule.listed(terms)

    def number_of(self, rule):
        """Return the number of the rule."""
        number = self._number(rule)
        if number is None:
            raise NotFitting(rule)
        return number

    def walk(self, start=0):
        """Yield the rules from that number on, in order."""
        if not 0 <= start <= self.total:
            raise OutOfRange(start)
        for number in range(start, self.total):
            yield self.rule_at(number)

    def share(self, first, second):
        """Return how many rules that fit put the first book ahead of the second."""
        check_books([first, second], self._catalog)
        step = step_between(first, second)
        beginnings = {(): 1}
        share = 0
        # The smaller sets come first, so all beginnings of a set are counted before it is left.
        for marks in reversed(list(self._ways)):
            begun = beginnings.get(marks, 0)
            for (mark, direction), larger, many in self._ways[marks]:
                if step[mark] == direction:
                    share = share + begun * many
                elif step[mark] == 0:
                    beginnings[larger] = beginnings.get(larger, 0) + begun
        return share

    def __contains__(self, rule):
        return self._number(rule) is not None

    def _number(self, rule):
        """Return the number of the rule, or None if it is not a full rule that fits."""
        if len(rule) != len(self._catalog):
            return None
        number = 0
        marks = ()
        for term in rule.terms:
            found = [at for at, way in enumerate(self._ways[marks]) if way[0] == term]
            if not found:
                return None
            number = number + self._many_before(marks, found[0])
            marks = self._ways[marks][found[0]][1]
        return number

    def _chosen(self, marks, number):
        """Return the index of the way behind the marks on which the rule with the number goes."""
        at = 0
        while self._many_before(marks, at + 1) <= number:
            at = at + 1
        return at

    def _many_before(self, marks, at):
        """Return how many rules go on by the ways behind the marks that stand ahead of this one."""
        return sum([many for _, _, many in self._ways[marks][:at]])


def ways_on(family, count):
    """Return for each feasible set of marks the tuple of the ways behind it, in order.

    A way has an open term, the set with its mark, and the number of rules that go on so.
    The larger sets come first.
    """
    ways = {}
    totals = {}
    for marks in reversed(list(family.feasible_sets())):
        found = []
        for term in family.open_terms(marks):
            larger = tuple(sorted([*marks, term[0]]))
            found.append((term, larger, totals[larger]))
        ways[marks] = tuple(found)
        totals[marks] = 1 if len(marks) == count else sum([many for _, _, many in found])
    return ways
