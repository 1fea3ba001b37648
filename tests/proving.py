"""Claims and certificates of points 16 and 17, straight from the words of the document."""

from itertools import combinations

from tests.definitions import Defined, all_assignments, subsets

PARTS = ("over", "well", "under")
KINDS = ("all", "some", "none")


class Case:
    """A small system with all its largest assignments and all its smallest covers."""

    def __init__(self, structure):
        self.structure = structure
        self.equations, self.unknowns = list(structure.equations), list(structure.unknowns)
        self.entries = set(structure.entries)
        candidates = all_assignments(self.equations, self.unknowns)
        self.defined = Defined(self.equations, self.unknowns, self.entries, candidates)
        self.items = [("equation", e) for e in self.equations] + [("unknown", u) for u in self.unknowns]
        self.covers = [c for c in combinations(self.items, self.defined.rank) if self.covered(c, self.entries)]
        self.largest = [tuple(sorted(chosen)) for chosen in self.defined.largest]

    def covered(self, items, entries):
        return all(("equation", e) in items or ("unknown", u) in items for e, u in entries)

    def claims(self):
        """Return all claims, those about the rank only for small numbers."""
        well = sorted(self.defined.well[0])
        found = [("rank", number) for number in range(-1, len(self.equations) + 2)]
        found += [("part", item, part) for item in self.items for part in PARTS]
        found += [("entry", *entry, kind) for entry in sorted(self.entries) for kind in KINDS]
        return found + [(word, e, f) for word in ("needs", "free") for e in well for f in well if e != f]

    def is_true(self, claim):
        if claim[0] == "rank":
            return claim[1] == self.defined.rank
        if claim[0] == "part":
            side = 0 if claim[1][0] == "equation" else 1
            return claim[1][1] in getattr(self.defined, claim[2])[side]
        if claim[0] == "entry":
            return self.defined.kind(claim[1:3]) == claim[3]
        return (claim[2] in self.defined.closed_sets[claim[1]]) == (claim[0] == "needs")

    def is_largest(self, thing):
        known = sorted(self.entries)
        return type(thing) is tuple and all(entry in known for entry in thing) and tuple(sorted(thing)) in self.largest

    def is_smallest(self, thing):
        if type(thing) is not tuple or any(item not in self.items for item in thing):
            return False
        return any(len(thing) == len(cover) and set(thing) == set(cover) for cover in self.covers)

    def meets_all_but(self, thing, entry):
        if type(thing) is not tuple or any(item not in self.items for item in thing) or len(set(thing)) < len(thing):
            return False
        return self.covered(thing, self.entries - {entry}) and not self.covered(thing, {entry})

    def is_right(self, claim, thing):
        """Tell whether the object is a certificate of the claim."""
        if type(thing) is not tuple or len(thing) not in (2, 3) or not self.is_largest(thing[0]):
            return False
        assignment, cover, rest = thing[0], thing[1], thing[2:]
        if claim[0] == "entry" and claim[3] == "all":
            return rest == () and self.meets_all_but(cover, claim[1:3]) and len(cover) == len(assignment) - 1
        if not self.is_smallest(cover):
            return False
        if claim[0] == "rank":
            return rest == () and len(assignment) == claim[1]
        if claim[0] == "part":
            return self.shows_part(*claim[1], claim[2], assignment, cover, rest)
        if claim[0] == "entry" and claim[3] == "none":
            return rest == () and ("equation", claim[1]) in cover and ("unknown", claim[2]) in cover
        if claim[0] == "entry":
            return len(rest) == 1 and self.is_largest(rest[0]) and claim[1:3] in assignment and \
                claim[1:3] not in rest[0]
        if claim[0] == "free":
            return rest == () and ("equation", claim[2]) in cover and ("equation", claim[1]) not in cover
        return len(rest) == 1 and self.is_chain(claim, dict(assignment), rest[0])

    def shows_part(self, kind, name, part, assignment, cover, rest):
        rows, columns = [e for e, u in assignment], [u for e, u in assignment]
        if part == "well":
            return len(rest) == 1 and self.is_smallest(rest[0]) and (kind, name) in cover and \
                (kind, name) not in rest[0]
        if (kind, part) == ("equation", "over"):
            return rest == () and name not in rows
        if (kind, part) == ("unknown", "under"):
            return rest == () and name not in columns
        if part == "under":
            return len(rest) == 1 and any((name, u) == (name, rest[0]) and u not in columns
                                          for e, u in self.entries if e == name)
        return len(rest) == 1 and any(e == rest[0] and e not in rows for e, u in self.entries if u == name)

    def is_chain(self, claim, given, chain):
        if type(chain) is not tuple or any(e not in self.equations for e in chain) or len(chain) == 0:
            return False
        if chain[0] != claim[1] or chain[-1] != claim[2]:
            return False
        return all(e in given and (before, given[e]) in self.entries for before, e in zip(chain, chain[1:]))

    def candidates(self, claim, every):
        """Return objects that may be certificates: all combinations, or only such with largest and smallest."""
        sizes = range(len(self.entries) + 1) if every else []
        firsts = [c for size in sizes for c in combinations(sorted(self.entries), size)] or self.largest
        fewer = [c for c in combinations(self.items, max(self.defined.rank - 1, 0))]
        seconds = subsets(self.items) if every else self.covers + fewer
        thirds = [(), *[(name,) for name in self.equations + self.unknowns]]
        if claim[0] == "part" and claim[2] == "well":
            thirds = [()] + [(cover,) for cover in (subsets(self.items) if every else self.covers)]
        if claim[0] == "entry":
            thirds = [()] + [(chosen,) for chosen in firsts]
        if claim[0] == "needs":
            names = self.equations
            thirds = [()] + [(c,) for c in [(), *[(e,) for e in names], *[(e, f) for e in names for f in names]]]
            thirds += [((e, f, g),) for e in names for f in names for g in names]
        return [(first, second, *third) for first in firsts for second in seconds for third in thirds]
