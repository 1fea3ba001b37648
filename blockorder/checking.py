"""The checks of certificates. They trust nothing but the names and the entries of the Structure."""

from blockorder.claims import is_item
from blockorder.matching import followers


def proves(structure, claim, thing):
    """Tell whether the object is a certificate of the claim."""
    if not isinstance(thing, tuple) or len(thing) != members(claim):
        return False
    if claim[0] == "entry" and claim[3] == "all":
        return proves_all(structure, claim, thing)
    if not is_assignment(structure, thing[0]) or not is_cover(structure, thing[1], len(thing[0])):
        return False
    if claim[0] == "rank":
        return len(thing[0]) == claim[1]
    if claim[0] == "part":
        return proves_part(structure, claim, thing)
    if claim[0] == "entry" and claim[3] == "some":
        return proves_some(structure, claim, thing)
    if claim[0] == "entry":
        return ("equation", claim[1]) in thing[1] and ("unknown", claim[2]) in thing[1]
    if claim[0] == "needs":
        return proves_needs(structure, claim, thing)
    return ("equation", claim[2]) in thing[1] and ("equation", claim[1]) not in thing[1]


def members(claim):
    """Return how many members a certificate of the claim has."""
    if claim[0] == "part":
        over_equation = claim[1][0] == "equation" and claim[2] == "over"
        under_unknown = claim[1][0] == "unknown" and claim[2] == "under"
        return 2 if over_equation or under_unknown else 3
    if claim[0] == "entry":
        return 3 if claim[3] == "some" else 2
    return 3 if claim[0] == "needs" else 2


def is_assignment(structure, thing):
    """Tell whether the object is an assignment, written as a tuple of entries."""
    if not isinstance(thing, tuple) or len(thing) > len(structure.equations):
        return False
    if not all([entry in structure.entries for entry in thing]):
        return False
    return len({one for one, other in thing}) == len(thing) and len({other for one, other in thing}) == len(thing)


def are_items(structure, thing, size):
    """Tell whether the object is a tuple of so many different items."""
    if not isinstance(thing, tuple) or len(thing) != size:
        return False
    return all([is_item(structure, item) for item in thing]) and len({item for item in thing}) == size


def is_met(entry, items):
    """Tell whether one of the ends of the entry is among the items."""
    return ("equation", entry[0]) in items or ("unknown", entry[1]) in items


def is_cover(structure, thing, size):
    """Tell whether the object is a cover of this size, written as a tuple of items."""
    return are_items(structure, thing, size) and all([is_met(entry, thing) for entry in structure.entries])


def leaves_out(assignment, item):
    """Tell whether the assignment leaves out the item."""
    side = 0 if item[0] == "equation" else 1
    return item[1] not in [entry[side] for entry in assignment]


def proves_part(structure, claim, thing):
    """Tell whether the largest assignment and the rest of the certificate prove in which part the item is."""
    item, part = claim[1], claim[2]
    if part == "well":
        return is_cover(structure, thing[2], len(thing[0])) and item in thing[1] and item not in thing[2]
    if len(thing) == 2:
        return leaves_out(thing[0], item)
    # The item is in the part because of an item of the other kind with which it has an entry.
    if part == "under":
        return (item[1], thing[2]) in structure.entries and leaves_out(thing[0], ("unknown", thing[2]))
    return (thing[2], item[1]) in structure.entries and leaves_out(thing[0], ("equation", thing[2]))


def proves_all(structure, claim, thing):
    """Tell whether the entry alone keeps the assignment from being larger than a cover."""
    assignment, items = thing
    if not is_assignment(structure, assignment) or not are_items(structure, items, len(assignment) - 1):
        return False
    unmet = [entry for entry in structure.entries if not is_met(entry, items)]
    return unmet == [claim[1:3]]


def proves_some(structure, claim, thing):
    """Tell whether one largest assignment contains the entry and another one does not."""
    entry = claim[1:3]
    if not is_assignment(structure, thing[2]) or len(thing[2]) != len(thing[0]):
        return False
    return entry in thing[0] and entry not in thing[2]


def proves_needs(structure, claim, thing):
    """Tell whether the chain leads from the first equation of the claim to the other one."""
    assignment, _, chain = thing
    if not isinstance(chain, tuple) or len(chain) == 0 or chain[0] != claim[1] or chain[-1] != claim[2]:
        return False
    links = followers(structure.equations, structure.entries, assignment)
    return all([is_step(links, chain[at - 1], chain[at]) for at in range(1, len(chain))])


def is_step(links, before, after):
    """Tell whether the second object is an equation that may follow the first one in a chain."""
    # The objects of a chain may have no hash; only names are looked up.
    return isinstance(before, str) and before in links and after in links[before]
