"""Papers: what shows that something is impossible."""

from shelfterms.steps import term_rank, written_term


class Paper:
    """The base class of all papers."""

    KIND = "paper"

    def told(self, catalog):
        """Return the paper as a list of lines."""
        return [self.KIND]


class Barrier(Paper):
    """Whatever fits leaves the marks inside by one of the exits."""

    KIND = "barrier"

    def __init__(self, inside, exits, blocks):
        self.inside = inside
        self.exits = exits
        self.blocks = blocks

    def told(self, catalog):
        """Return the paper as a list of lines."""
        exits = [f"exit: {written_term(catalog, term)}" for term in self.exits]
        blocks = [
            f"block: {written_term(catalog, term)} {_written_place(place)}"
            for term, place in self.blocks
        ]
        return [self.KIND, f"inside:{_written_marks(catalog, self.inside)}", *exits, *blocks]

    def __and__(self, other):
        # Each barrier has an exit or a block for each term that is not inside it, so
        # these are all terms outside the result. The blocks of the first come last
        # because they replace those of the second.
        blocks = {term: place for term, place in other.blocks + self.blocks}
        exits = {term: True for term in self.exits + other.exits if term not in blocks}
        return Barrier(
            tuple([mark for mark in self.inside if mark in other.inside]),
            tuple(sorted(list(exits), key=term_rank)),
            tuple([(term, blocks[term]) for term in sorted(list(blocks), key=term_rank)]),
        )


class Gate(Barrier):
    """A barrier among some marks, with a place that has to be decided."""

    KIND = "gate"

    def __init__(self, inside, exits, blocks, among, place):
        super().__init__(inside, exits, blocks)
        self.among = among
        self.place = place

    def told(self, catalog):
        """Return the paper as a list of lines."""
        lines = super().told(catalog)
        lines.append(f"among:{_written_marks(catalog, self.among)}")
        lines.append(f"open: {_written_place(self.place)}")
        return lines


class Refusal(Paper):
    """No few books make the evidence sound when they are left out."""

    KIND = "refusal"

    def __init__(self, barrier, children):
        self.barrier = barrier
        self.children = children

    def told(self, catalog):
        """Return the paper as a list of lines."""
        lines = self.barrier.told(catalog)
        for spot, refusal in self.children:
            name, index = spot
            lines.append(f"without: {name} {index}")
            lines.extend(refusal.told(catalog))
        return [self.KIND, *_indented(lines)]


class Scarcity(Paper):
    """No rule with fewer than `bound` terms explains the evidence."""

    KIND = "scarcity"

    def __init__(self, bound, gates):
        self.bound = bound
        self.gates = gates

    def told(self, catalog):
        """Return the paper as a list of lines."""
        lines = [line for gate in self.gates for line in gate.told(catalog)]
        return [self.KIND, f"terms: {self.bound}", *_indented(lines)]


def _written_marks(catalog, marks):
    return "".join([f" {catalog.names[mark]}" for mark in marks])


def _written_place(place):
    name, i, j = place
    return f"{name} {i} {j}"


def _indented(lines):
    return [f"  {line}" for line in lines]
