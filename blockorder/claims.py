"""Claims about a Structure: which objects are claims, and which claims are true."""

from blockorder.forms import is_integer


def is_claim(structure, thing):
    """Tell whether the object is a claim about the Structure."""
    if not isinstance(thing, tuple):
        return False
    if len(thing) == 2 and thing[0] == "rank":
        return is_integer(thing[1])
    if len(thing) == 3 and thing[0] == "part":
        return is_item(structure, thing[1]) and thing[2] in ("over", "well", "under")
    if len(thing) == 4 and thing[0] == "entry":
        return thing[1:3] in structure.entries and thing[3] in ("all", "some", "none")
    if len(thing) == 3 and thing[0] in ("needs", "free"):
        well = structure.well.equations
        return thing[1] in well and thing[2] in well and thing[1] != thing[2]
    return False


def is_item(structure, thing):
    """Tell whether the object is an item of the Structure."""
    if not isinstance(thing, tuple) or len(thing) != 2:
        return False
    if thing[0] == "equation":
        return thing[1] in structure.equations
    return thing[0] == "unknown" and thing[1] in structure.unknowns


def is_true(structure, claim):
    """Tell whether the claim is true."""
    if claim[0] == "rank":
        return claim[1] == structure.rank
    if claim[0] == "part":
        return claim[2] == part_name(structure, claim[1])
    if claim[0] == "entry":
        return claim[3] == structure.entry_kind(claim[1], claim[2])
    needed = claim[2] in structure.closed_set(claim[1])
    return needed == (claim[0] == "needs")


def part_name(structure, item):
    """Return the name of the part that contains the item."""
    kind, name = item
    if name in names_of(structure.over, kind):
        return "over"
    return "under" if name in names_of(structure.under, kind) else "well"


def names_of(part, kind):
    """Return the names of the items of this kind in the part."""
    return part.equations if kind == "equation" else part.unknowns
