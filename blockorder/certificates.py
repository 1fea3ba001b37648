"""Certificates of true claims about a Structure."""

from blockorder.checking import proves
from blockorder.claims import is_claim, is_true
from blockorder.errors import FalseClaim, InvalidClaim
from blockorder.graph import path
from blockorder.matching import followers
from blockorder.structure import Structure


def certificate(structure, claim):
    """Return a certificate of the claim."""
    if not is_claim(structure, claim):
        raise InvalidClaim()
    if not is_true(structure, claim):
        raise FalseClaim()
    if claim[0] == "part":
        return part_certificate(structure, claim[1], claim[2])
    if claim[0] == "entry":
        return entry_certificate(structure, claim[1:3], claim[3])
    if claim[0] == "needs":
        return needs_certificate(structure, claim[1], claim[2])
    solved = structure.closed_set(claim[1]) if claim[0] == "free" else ()
    return (largest_pairs(structure), cover_without(structure, solved))


def is_certificate(structure, claim, thing):
    """Tell whether the object is a certificate of the claim."""
    if not is_claim(structure, claim):
        raise InvalidClaim()
    return proves(structure, claim, thing)


def largest_pairs(structure):
    """Return a largest assignment as a tuple of entries."""
    return tuple(list(structure.assignment.items()))


def cover_without(structure, closed):
    """Return a smallest cover with the well-determined unknowns of the closed set in place of its equations."""
    given = [structure.assignment[equation] for equation in closed]
    rows = [name for name in structure.equations if name not in structure.over.equations and name not in closed]
    columns = [name for name in structure.unknowns if name in structure.over.unknowns or name in given]
    return tuple([("equation", name) for name in rows] + [("unknown", name) for name in columns])


def without_equation(structure, name):
    """Return the Structure of the system without the equation."""
    kept = [equation for equation in structure.equations if equation != name]
    return Structure(kept, structure.unknowns, [entry for entry in structure.entries if entry[0] != name])


def without_unknown(structure, name):
    """Return the Structure of the system without the unknown."""
    kept = [unknown for unknown in structure.unknowns if unknown != name]
    return Structure(structure.equations, kept, [entry for entry in structure.entries if entry[1] != name])


def without_entry(structure, entry):
    """Return the Structure of the system without the entry."""
    return Structure(structure.equations, structure.unknowns, [one for one in structure.entries if one != entry])


def part_certificate(structure, item, part):
    """Return a certificate that the item is in the part."""
    if part == "over":
        return over_certificate(structure, item)
    if part == "under":
        return under_certificate(structure, item)
    by_rows = cover_without(structure, ())
    by_columns = cover_without(structure, structure.well.equations)
    if item[0] == "equation":
        return (largest_pairs(structure), by_rows, by_columns)
    return (largest_pairs(structure), by_columns, by_rows)


def over_certificate(structure, item):
    """Return a certificate that the item is in the overdetermined part."""
    kind, name = item
    if kind == "equation":
        return (largest_pairs(without_equation(structure, name)), structure.cover)
    occurring = [one for one, other in structure.entries if other == name and one in structure.over.equations]
    return (largest_pairs(without_equation(structure, occurring[0])), structure.cover, occurring[0])


def under_certificate(structure, item):
    """Return a certificate that the item is in the underdetermined part."""
    kind, name = item
    if kind == "unknown":
        return (largest_pairs(without_unknown(structure, name)), structure.cover)
    occurring = [other for one, other in structure.entries if one == name and other in structure.under.unknowns]
    return (largest_pairs(without_unknown(structure, occurring[0])), structure.cover, occurring[0])


def entry_certificate(structure, entry, kind):
    """Return a certificate that all, some or none of the largest assignments contain the entry."""
    equation, unknown = entry
    if kind == "all":
        return (largest_pairs(structure), without_entry(structure, entry).cover)
    rest = without_unknown(without_equation(structure, equation), unknown)
    if kind == "none":
        return (largest_pairs(structure), rest.cover + (("equation", equation), ("unknown", unknown)))
    return ((entry,) + largest_pairs(rest), structure.cover, largest_pairs(without_entry(structure, entry)))


def needs_certificate(structure, one, other):
    """Return a certificate that the least closed set of the first equation contains the other one."""
    assignment = largest_pairs(structure)
    links = followers(structure.equations, structure.entries, assignment)
    return (assignment, structure.cover, path(one, other, links))
