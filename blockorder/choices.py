"""Choices that a structure leaves: which equations to drop, and which unknowns to fix from outside."""

from blockorder.contents import check_unknowns
from blockorder.errors import TooLarge
from blockorder.graph import linked, neighbours
from blockorder.matching import largest_assignment

MOST_OVERDETERMINED = 10


def redundant_sets(structure, *, most=100):
    """Yield the smallest redundant sets of equations, ascending: the first ones, so many at most."""
    if len(structure.over.equations) > MOST_OVERDETERMINED:
        raise TooLarge(MOST_OVERDETERMINED)
    rows = linked(structure.equations, structure.entries)
    found = smallest_redundant_sets(structure.over.equations, rows)
    for equations in found[:most]:
        yield equations


def smallest_redundant_sets(equations, rows):
    """Return the smallest redundant sets of these equations, ascending."""
    found = []
    for chosen in subsets(equations):
        if len(neighbours(chosen, rows)) < len(chosen) and not holds_any(chosen, found):
            found.append(chosen)
    return sorted(found)


def subsets(names):
    """Return all tuples of some of the names, each in their order and behind those of only some of its names."""
    found = [()]
    for name in names:
        found = found + [chosen + (name,) for chosen in found]
    return found


def holds_any(chosen, others):
    """Tell whether one of the other tuples has all its names among the chosen ones."""
    return any([all([name in chosen for name in other]) for other in others])


def inputs(structure, *preferred):
    """Return the set of inputs that comes before all others by the preferred unknowns, ascending."""
    check_unknowns(structure.unknowns, preferred)
    taken = []
    for unknown in [*preferred, *structure.unknowns]:
        if unknown not in taken and rank_without(structure, [*taken, unknown]) == structure.rank:
            taken.append(unknown)
    return tuple(sorted(taken))


def rank_without(structure, unknowns):
    """Return the rank of the system without these unknowns."""
    kept = [(equation, unknown) for equation, unknown in structure.entries if unknown not in unknowns]
    return len(largest_assignment(linked(structure.equations, kept)))
