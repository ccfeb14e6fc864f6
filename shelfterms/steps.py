"""Terms, sets of marks, and the steps from one book to another."""


def step_between(earlier, later):
    """Return the tuple of the signs with which the values change."""
    return tuple([_sign(after - before) for before, after in zip(earlier, later)])


def _sign(number):
    if number == 0:
        return 0
    return 1 if number > 0 else -1


def good_terms(step):
    """Return the list of the terms that are good for the step, in order."""
    return [(mark, sign) for mark, sign in enumerate(step) if sign != 0]


def bad_terms(step):
    """Return the list of the terms that are bad for the step, in order."""
    return [(mark, -sign) for mark, sign in enumerate(step) if sign != 0]


def all_terms(count):
    """Return the list of all terms of `count` marks, in order."""
    return [(mark, direction) for mark in range(count) for direction in (1, -1)]


def mark_sets(count, size):
    """Return the list of all sets of `size` marks as ascending tuples, in ascending order."""
    sets = [
        tuple([mark for mark in range(count) if bits >> mark & 1 == 1])
        for bits in range(1 << count)
    ]
    return sorted([marks for marks in sets if len(marks) == size])


def term_rank(term):
    """Return the rank of the term."""
    mark, direction = term
    return 2 * mark if direction == 1 else 2 * mark + 1


def written_term(catalog, term):
    """Return the term as text: the name of its mark, and `asc` or `desc`."""
    mark, direction = term
    word = "asc" if direction == 1 else "desc"
    return f"{catalog.names[mark]} {word}"


def verdict(terms, step):
    """Return 1 or -1 as the first term that decides is good or bad, else 0."""
    for mark, direction in terms:
        if step[mark] != 0:
            return 1 if step[mark] == direction else -1
    return 0
