"""The family of the beginnings of all rules that fit an evidence."""

from shelfterms.errors import InvalidBeginning, InvalidRule, NoRule
from shelfterms.evidence import Evidence
from shelfterms.kinds import check_marks, check_terms
from shelfterms.papers import Barrier, Gate
from shelfterms.rules import Rule
from shelfterms.steps import all_terms, bad_terms, term_rank


class Family:
    """What an evidence without some spots says about the rules that fit it.

    Inside, a set of terms is an integer that has the bit `term_rank(term)` for each term.
    """

    def __init__(self, evidence, spots=()):
        self._evidence = evidence
        self._spots = list(spots)
        self._count = len(evidence.catalog)
        self._take({place: _bad_bits(evidence, place) for place in evidence.places(spots)})

    def without_spot(self, spot):
        """Return the family of the evidence in which this spot is left out, too."""
        family = Family(Evidence(self._evidence.catalog))
        family._evidence = self._evidence
        family._spots = [*self._spots, spot]
        # Most places are the same ones, so their steps need not be looked at again.
        known = self._bads
        family._take({
            place: known[place] if place in known else _bad_bits(self._evidence, place)
            for place in self._evidence.places(family._spots)
        })
        return family

    def without_step(self, step):
        """Return the family that the places with all other steps make."""
        left_out = _bits(bad_terms(step))
        family = Family(Evidence(self._evidence.catalog))
        family._take({place: bad for place, bad in self._bads.items() if bad != left_out})
        return family

    def _take(self, bads):
        """Keep the places, each with the bad terms of its step."""
        self._bads = bads
        # The bad terms of a step tell which marks it changes, and so all that matters
        # about it. The first place with this step stands for the others.
        self._firsts = {}
        for place, bad in bads.items():
            self._firsts.setdefault(bad, place)

    @property
    def sound(self):
        """True if some rule fits."""
        return len(self.reach()) == self._count

    def check_sound(self):
        """Raise NoRule if no rule fits."""
        barrier = self.find_barrier()
        if barrier is not None:
            raise NoRule(barrier)

    def open_terms(self, used=()):
        """Return the list of the terms that are open behind the used marks, in order."""
        check_marks(used, self._count)
        behind = self._with_marks(used)
        # The terms of the used marks are not open either.
        closed = behind
        for bad in self._firsts:
            if bad & behind == 0:
                closed = closed | bad
        return [
            term for rank, term in enumerate(all_terms(self._count)) if closed >> rank & 1 == 0
        ]

    def is_beginning(self, terms):
        """Return True if the terms of the list are a beginning."""
        rule = self._checked_rule(terms)
        return self._first_closed(rule) is None

    def reach(self, barred=()):
        """Return the ascending tuple of the marks that can be used without the barred ones."""
        check_marks(barred, self._count)
        return self._reach_without([term for term in all_terms(self._count) if term[0] in barred])

    def reach_within(self, marks):
        """Return the greatest feasible set of these marks."""
        return self.reach([mark for mark in range(self._count) if mark not in marks])

    def is_feasible(self, marks):
        """Return True if some beginning has just these marks."""
        check_marks(marks, self._count)
        return len(self.reach_within(marks)) == len(marks)

    def feasible_sets(self):
        """Yield all feasible sets as ascending tuples, smaller ones first."""
        sets = [()]
        while sets:
            for marks in sets:
                yield marks
            sets = self._sets_with_one_more(sets)

    def least_sets(self, mark):
        """Return the list of the least feasible sets that have the mark."""
        check_marks([mark], self._count)
        found = []
        for marks in self.feasible_sets():
            # The smaller sets come first, so what is found so far has all that may be within.
            if mark in marks and not any([_is_within(fewer, marks) for fewer in found]):
                found.append(marks)
        return found

    def complete(self, terms=()):
        """Return the rule that fits, begins with the terms and then takes the least ones."""
        rule = self._checked_rule(terms)
        self.check_sound()
        at = self._first_closed(rule)
        if at is not None:
            raise InvalidBeginning(at)
        taken = list(rule.terms)
        while len(taken) < self._count:
            taken.append(self.open_terms([mark for mark, _ in taken])[0])
        return Rule.listed(taken)

    def ahead_of(self, mark):
        """Return the ascending tuple of the marks that stand ahead of the mark in every rule."""
        check_marks([mark], self._count)
        self.check_sound()
        # A mark that is not needed to use this one may stand behind it.
        others = [other for other in range(self._count) if other != mark]
        return tuple([other for other in others if mark not in self.reach([other])])

    def directions(self, mark):
        """Return the tuple of the directions that the mark has in some rule."""
        check_marks([mark], self._count)
        self.check_sound()
        # Behind more marks, more terms are open. So the mark is put behind all marks
        # that can be used without it, where no other mark has an open term.
        latest = self.open_terms(self.reach([mark]))
        return tuple([direction for _, direction in latest])

    def find_barrier(self, exits=()):
        """Return the barrier behind what is used by terms other than the exits, or None."""
        check_terms(exits, self._count)
        inside = self._reach_without(exits)
        return None if len(inside) == self._count else self.barrier_behind(inside, exits)

    def barrier_behind(self, inside, exits):
        """Return the barrier with these marks inside, behind which the exits alone are open."""
        outside = [term for term in all_terms(self._count) if term[0] not in inside]
        blocked = [term for term in outside if term not in exits]
        return Barrier(
            inside,
            tuple([term for term in outside if term in exits]),
            self._first_blocks(blocked, inside),
        )

    def find_gate(self, among):
        """Return the gate that no rule with these ascending marks alone passes.

        Return None if such a rule explains the evidence.
        """
        inside = self.reach_within(among)
        left = self.open_place(inside)
        if left is None:
            return None
        blocked = [
            term for term in all_terms(self._count) if term[0] in among and term[0] not in inside
        ]
        return Gate(inside, (), self._first_blocks(blocked, inside), tuple(among), left)

    def open_place(self, used):
        """Return the first place that is open behind the used marks, or None."""
        found = self._places_behind(used)
        return found[0][1] if found else None

    def exits_from(self, inside):
        """Return the list of the terms that can be the first one with a mark not inside."""
        return self.open_terms(self.reach_within(inside))

    def implies(self, step):
        """Return True if no rule that fits puts the two books of the step the other way round.

        The family is to be sound.
        """
        stays = [mark for mark, sign in enumerate(step) if sign == 0]
        bad = bad_terms(step)
        return not any([term in bad for term in self.exits_from(stays)])

    def _checked_rule(self, terms):
        rule = Rule.listed(terms)
        if any([mark >= self._count for mark in rule.marks]):
            raise InvalidRule(rule.terms)
        return rule

    def _first_closed(self, rule):
        """Return the index of the first term that is not open behind those before it, or None."""
        for at, term in enumerate(rule.terms):
            if term not in self.open_terms(rule.marks[:at]):
                return at
        return None

    def _reach_without(self, barred):
        """Return the ascending tuple of the marks that terms other than the barred ones can use."""
        marks = []
        terms = self._open_without(barred, marks)
        while terms:
            marks.append(terms[0][0])
            terms = self._open_without(barred, marks)
        return tuple(sorted(marks))

    def _open_without(self, barred, marks):
        return [term for term in self.open_terms(marks) if term not in barred]

    def _sets_with_one_more(self, sets):
        larger = [
            tuple(sorted([*marks, mark])) for marks in sets for mark, _ in self.open_terms(marks)
        ]
        return sorted(set(larger))

    def _first_blocks(self, terms, inside):
        """Return the tuple of the terms with the first place that closes each behind the marks."""
        behind = self._places_behind(inside)
        blocks = []
        for term in terms:
            bit = _bits([term])
            closing = [place for bad, place in behind if bad & bit != 0]
            blocks.append((term, closing[0]))
        return tuple(blocks)

    def _places_behind(self, used):
        """Return the pairs of bad terms and place that are open behind the used marks."""
        behind = self._with_marks(used)
        return [(bad, place) for bad, place in self._firsts.items() if bad & behind == 0]

    def _with_marks(self, marks):
        return _bits([term for term in all_terms(self._count) if term[0] in marks])


def sound_family(evidence):
    """Return the family of the evidence; raise NoRule if no rule fits."""
    family = Family(evidence)
    family.check_sound()
    return family


def _bad_bits(evidence, place):
    return _bits(bad_terms(evidence.step(place)))


def _bits(terms):
    """Return the set of the terms as an integer."""
    return sum([1 << term_rank(term) for term in terms])


def _is_within(few, many):
    return all([mark in many for mark in few])
