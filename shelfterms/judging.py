"""Judges of rules and papers, which trust nothing that a paper says."""

from shelfterms.steps import all_terms, bad_terms, good_terms, mark_sets, step_between


def judge_rule(evidence, rule, spots=()):
    """Return True if the rule is full and fits the evidence without the spots."""
    evidence.check_spots(spots)
    if sorted(rule.marks) != _all_marks(evidence):
        return False
    for place in evidence.places(spots):
        first, second = evidence.pair(place)
        if rule.compare(first, second) == 1:
            return False
    return True


def judge_barrier(evidence, barrier, spots=()):
    """Return True if the barrier holds for the evidence without the spots."""
    evidence.check_spots(spots)
    every = _all_marks(evidence)
    return (
        _is_set_of(barrier.inside, every)
        and list(barrier.inside) != every
        and _is_closed(evidence, barrier, every, spots)
    )


def judge_before(evidence, barrier, first, second):
    """Return True if the barrier shows that the first book comes before the second."""
    if not judge_barrier(evidence, barrier):
        return False
    step = step_between(first, second)
    good = good_terms(step)
    return _stays_on(step, barrier.inside) and all([term in good for term in barrier.exits])


def judge_gate(evidence, gate):
    """Return True if the gate holds for the evidence."""
    return (
        _is_set_of(gate.among, _all_marks(evidence))
        and _is_set_of(gate.inside, gate.among)
        and _is_closed(evidence, gate, gate.among, ())
        and _is_left_open(evidence, gate.place, gate.inside)
    )


def judge_scarcity(evidence, paper):
    """Return True if the paper shows that no rule with fewer terms than its bound explains."""
    count = len(evidence.catalog)
    return (
        0 <= paper.bound <= count
        and [gate.among for gate in paper.gates] == mark_sets(count, paper.bound - 1)
        and all([len(gate.exits) == 0 and judge_gate(evidence, gate) for gate in paper.gates])
    )


def judge_refusal(evidence, refusal, most):
    """Return True if the refusal shows that leaving out `most` books is not enough."""
    return _is_refused(evidence, refusal, most, [])


def _is_refused(evidence, refusal, most, spots):
    barrier = refusal.barrier
    if len(barrier.exits) != 0 or not judge_barrier(evidence, barrier, spots):
        return False
    due = evidence.spots_of([place for _, place in barrier.blocks]) if most > 0 else []
    if [spot for spot, _ in refusal.children] != due:
        return False
    return all([
        _is_refused(evidence, child, most - 1, [*spots, spot])
        for spot, child in refusal.children
    ])


def _all_marks(evidence):
    return list(range(len(evidence.catalog)))


def _is_set_of(marks, every):
    """Return True if the marks ascend and are some of all these, which ascend, too."""
    return list(marks) == [mark for mark in every if mark in marks]


def _is_closed(evidence, barrier, among, spots):
    """Return True if each term outside that is no exit is blocked, as far as the marks go."""
    terms = [term for term in all_terms(len(evidence.catalog)) if term[0] in among]
    outside = [term for term in terms if term[0] not in barrier.inside]
    exits = [term for term in outside if term in barrier.exits]
    blocked = [term for term in outside if term not in exits]
    return (
        list(barrier.exits) == exits
        and [term for term, _ in barrier.blocks] == blocked
        and all([_is_block(evidence, block, barrier.inside, spots) for block in barrier.blocks])
    )


def _is_block(evidence, block, inside, spots):
    term, place = block
    if not evidence.has_place(place) or _is_touched(place, spots):
        return False
    step = evidence.step(place)
    return _stays_on(step, inside) and term in bad_terms(step)


def _is_touched(place, spots):
    """Return True if one of the two books of the place is left out."""
    name, i, j = place
    return (name, i) in spots or (name, j) in spots


def _is_left_open(evidence, place, inside):
    if not evidence.has_place(place):
        return False
    step = evidence.step(place)
    return _stays_on(step, inside) and len(good_terms(step)) != 0


def _stays_on(step, marks):
    return all([step[mark] == 0 for mark in marks])
