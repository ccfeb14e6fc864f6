"""What says as much with less: fewer places, and rules with fewer terms."""

from shelfterms.family import sound_family
from shelfterms.kinds import check_books
from shelfterms.papers import Scarcity
from shelfterms.rules import Rule
from shelfterms.steps import mark_sets, step_between


def is_implied(evidence, books):
    """Return True if every rule that fits sorts the books in this order."""
    check_books(books, evidence.catalog)
    family = sound_family(evidence)
    return all([
        family.implies(step_between(earlier, later)) for earlier, later in zip(books, books[1:])
    ])


def spine(evidence):
    """Return the list of the places that say as much as all of them."""
    family = sound_family(evidence)
    kept = []
    for place, step in _last_places(evidence):
        others = family.without_step(step)
        if others.implies(step):
            family = others
        else:
            kept.append(place)
    return kept


def _last_places(evidence):
    """Return the pairs of place and step, in order, without those whose step comes once more."""
    lasts = {}
    for place in evidence.places():
        step = evidence.step(place)
        # The later one of two places with one step implies the earlier one.
        if step in lasts:
            del lasts[step]
        lasts[step] = place
    return [(place, step) for step, place in lasts.items()]


def shortest(evidence):
    """Return the first of the rules with the fewest terms that explain the evidence."""
    family = sound_family(evidence)
    lacking = _lacking(family)
    terms = []
    marks = ()
    while lacking[marks] > 0:
        for term in family.open_terms(marks):
            larger = tuple(sorted([*marks, term[0]]))
            if lacking[larger] < lacking[marks]:
                terms.append(term)
                marks = larger
                break
    return Rule.listed(terms)


def _lacking(family):
    """Return for each feasible set how many terms it lacks until no place is open."""
    lacking = {}
    for marks in reversed(list(family.feasible_sets())):
        if family.open_place(marks) is None:
            lacking[marks] = 0
        else:
            larger = [tuple(sorted([*marks, mark])) for mark, _ in family.open_terms(marks)]
            lacking[marks] = 1 + min([lacking[more] for more in larger])
    return lacking


def scarcity(evidence):
    """Return the paper that no rule with fewer terms than the shortest explains the evidence."""
    bound = len(shortest(evidence))
    family = sound_family(evidence)
    sets = mark_sets(len(evidence.catalog), bound - 1)
    return Scarcity(bound, tuple([family.find_gate(marks) for marks in sets]))
