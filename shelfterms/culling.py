"""Which books stand wrong."""

from shelfterms.errors import OutOfRange
from shelfterms.family import Family
from shelfterms.kinds import is_integer
from shelfterms.papers import Refusal

MOST_SPOTS = 2


def blame(evidence):
    """Return the list of the spots that make the evidence sound when left out alone."""
    family = Family(evidence)
    barrier = family.find_barrier()
    if barrier is None:
        return list(evidence.all_spots())
    return [spot for spot in _touched(evidence, barrier) if family.without_spot(spot).sound]


def cull(evidence, most=1):
    """Return as few spots as make the evidence sound when left out, or a refusal."""
    if not is_integer(most, 0, MOST_SPOTS):
        raise OutOfRange(most)
    family = Family(evidence)
    found = None
    for limit in range(most + 1):
        found = _culled(evidence, family, limit)
        if isinstance(found, list):
            return tuple([spot for spot in evidence.all_spots() if spot in found])
    return found


def _culled(evidence, family, most):
    """Return the list of at most so many spots to leave out, too, or the refusal."""
    barrier = family.find_barrier()
    if barrier is None:
        return []
    children = []
    # Whatever is left out, the barrier stays as long as the books of its blocks stand.
    for spot in _touched(evidence, barrier) if most > 0 else []:
        found = _culled(evidence, family.without_spot(spot), most - 1)
        if isinstance(found, list):
            return [spot, *found]
        children.append((spot, found))
    return Refusal(barrier, tuple(children))


def _touched(evidence, barrier):
    """Return the spots of the blocks in the order of all spots."""
    return evidence.spots_of([place for _, place in barrier.blocks])
