"""Questions about all rules that fit an evidence."""

from shelfterms.errors import Undecided
from shelfterms.family import Family, sound_family
from shelfterms.kinds import check_books, check_marks, check_terms
from shelfterms.papers import Barrier
from shelfterms.rules import Rule
from shelfterms.steps import all_terms, bad_terms, step_between


class Order:
    """Which of two books comes first: `before` and `after` are each a rule or a barrier."""

    def __init__(self, first, second, before, after):
        self.first = first
        self.second = second
        self.before = before
        self.after = after

    @property
    def word(self):
        """The answer as a word: same, either, before or after."""
        if self.first == self.second:
            return "same"
        if isinstance(self.before, Rule):
            return "either" if isinstance(self.after, Rule) else "before"
        return "after"


def settle(evidence, spots=()):
    """Return the least rule that fits, or the barrier that none passes."""
    family = Family(evidence, spots)
    return family.complete() if family.sound else family.find_barrier()


def order_of(evidence, first, second):
    """Return which of the two books comes first."""
    check_books([first, second], evidence.catalog)
    family = sound_family(evidence)
    before = _may_precede(family, first, second)
    after = _may_precede(family, second, first)
    return Order(first, second, before, after)


def chain_paper(evidence, books):
    """Return one barrier for the first and the last book, or a rule for two neighbours."""
    check_books(books, evidence.catalog)
    family = sound_family(evidence)
    # Combined with another barrier, this one gives the other one.
    chain = Barrier(tuple(range(len(evidence.catalog))), (), ())
    for earlier, later in zip(books, books[1:]):
        paper = _may_precede(family, later, earlier)
        if isinstance(paper, Rule):
            return paper
        chain = chain & paper
    return chain


def slot_papers(evidence, name, book):
    """Return the list with a rule or a barrier for each slot of the shelf."""
    shelf = evidence[name]
    check_books([book], evidence.catalog)
    Family(evidence).check_sound()
    papers = []
    for slot in range(len(shelf) + 1):
        around = [*shelf[max(slot - 1, 0):slot], book, *shelf[slot:slot + 1]]
        papers.append(settle(evidence.with_question(around)))
    return papers


def slots(evidence, name, book):
    """Return the ascending list of the slots in which the book may stand."""
    papers = slot_papers(evidence, name, book)
    return [slot for slot, paper in enumerate(papers) if isinstance(paper, Rule)]


def exits_of(evidence, inside):
    """Return the list of the terms that can be the first one with a mark not inside."""
    check_marks(inside, len(evidence.catalog))
    return sound_family(evidence).exits_from(inside)


def exit_paper(evidence, inside, exits):
    """Return the barrier that leaves the marks by the exits alone, or a rule that does not."""
    count = len(evidence.catalog)
    check_marks(inside, count)
    check_terms(exits, count)
    family = sound_family(evidence)
    possible = family.exits_from(inside)
    others = [term for term in possible if term not in exits]
    if not others:
        return family.barrier_behind(family.reach_within(inside), possible)
    outside = [term for term in all_terms(count) if term[0] not in inside]
    return family.complete([*_least_terms(family, outside, []), others[0]])


def mark_paper(evidence, first, second):
    """Return the barrier that keeps the first mark ahead of the second, or a rule."""
    check_marks([first, second], len(evidence.catalog))
    family = sound_family(evidence)
    barred = [(first, 1), (first, -1)]
    if first in family.ahead_of(second):
        return family.find_barrier(barred)
    return family.complete(_least_terms(family, barred, [second]))


def direction_paper(evidence, mark, direction):
    """Return a rule in which the mark has the direction, or the barrier against it."""
    count = len(evidence.catalog)
    check_marks([mark], count)
    check_terms([(mark, direction)], count)
    family = sound_family(evidence)
    barred = [(mark, -direction)]
    if direction in family.directions(mark):
        return family.complete(_least_terms(family, barred, []))
    return family.find_barrier(barred)


def need_paper(evidence, mark):
    """Return the gate that nothing passes without the mark, or a rule that explains without it."""
    count = len(evidence.catalog)
    check_marks([mark], count)
    family = sound_family(evidence)
    gate = family.find_gate([other for other in range(count) if other != mark])
    if gate is not None:
        return gate
    terms = []
    while family.open_place([taken for taken, _ in terms]) is not None:
        terms.append(_open_terms(family, terms, [(mark, 1), (mark, -1)])[0])
    return Rule.listed(terms)


def line_up(evidence, books):
    """Return the list of the books in the order in which all rules that fit sort them."""
    check_books(books, evidence.catalog)
    family = sound_family(evidence)
    for at, first in enumerate(books):
        for other in range(at + 1, len(books)):
            if _is_undecided(family, first, books[other]):
                raise Undecided(at, other)
    return family.complete().arranged(books)


def _may_precede(family, first, second):
    """Return a rule that does not put the second book ahead, or the barrier if all do."""
    barred = bad_terms(step_between(first, second))
    if first != second and family.implies(step_between(second, first)):
        return family.find_barrier(barred)
    return family.complete(_least_terms(family, barred, [mark for mark, _ in barred]))


def _is_undecided(family, first, second):
    return not (
        family.implies(step_between(first, second))
        or family.implies(step_between(second, first))
    )


def _least_terms(family, barred, last):
    """Return the least open terms that are not barred, until a mark of `last` is taken."""
    terms = []
    found = _open_terms(family, terms, barred)
    while found:
        terms.append(found[0])
        found = _open_terms(family, terms, barred) if found[0][0] not in last else []
    return terms


def _open_terms(family, terms, barred):
    """Return the terms that are open behind the marks of these terms and not barred."""
    used = [mark for mark, _ in terms]
    return [term for term in family.open_terms(used) if term not in barred]
