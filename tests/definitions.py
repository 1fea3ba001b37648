"""What the points 10 to 14 of the document define, found by trying all assignments and all sets."""

from itertools import combinations, permutations


def all_assignments(equations, unknowns):
    """Return all sets of pairs of which no two have the same equation or the same unknown."""
    found = []
    for size in range(min(len(equations), len(unknowns)) + 1):
        for chosen in combinations(equations, size):
            for given in permutations(unknowns, size):
                found.append(frozenset(zip(chosen, given)))
    return found


def subsets(names):
    return [chosen for size in range(len(names) + 1) for chosen in combinations(names, size)]


class Defined:
    """The structure of a small system, straight from the definitions."""

    def __init__(self, equations, unknowns, entries, candidates):
        self.equations, self.unknowns, self.entries = equations, unknowns, entries
        assignments = [chosen for chosen in candidates if chosen <= entries]
        self.rank = max(len(chosen) for chosen in assignments)
        self.largest = [chosen for chosen in assignments if len(chosen) == self.rank]
        self.find_parts()
        self.find_closed_sets()
        self.find_blocks()

    def find_parts(self):
        over_rows = {e for e in self.equations for chosen in self.largest if all(e != row for row, _ in chosen)}
        over_columns = {unknown for equation, unknown in self.entries if equation in over_rows}
        under_columns = {u for u in self.unknowns for chosen in self.largest if all(u != col for _, col in chosen)}
        under_rows = {equation for equation, unknown in self.entries if unknown in under_columns}
        self.over = (over_rows, over_columns)
        self.under = (under_rows, under_columns)
        self.well = (set(self.equations) - over_rows - under_rows, set(self.unknowns) - over_columns - under_columns)

    def find_closed_sets(self):
        rows, columns = self.well
        occurring = {row: {u for equation, u in self.entries if equation == row and u in columns} for row in rows}
        closed = [set(chosen) for chosen in subsets(sorted(rows))
                  if len(set().union(*[occurring[row] for row in chosen])) == len(chosen)]
        self.occurring = occurring
        self.closed_sets = {row: set.intersection(*[chosen for chosen in closed if row in chosen]) for row in rows}

    def find_blocks(self):
        rows, columns = self.well
        groups = []
        for row in sorted(rows):
            group = [other for other in sorted(rows) if self.closed_sets[other] == self.closed_sets[row]]
            if group not in groups:
                groups.append(group)
        owned = [{given for row, given in self.largest[0] if row in group} for group in groups]
        self.other_owners = [chosen for chosen in self.largest if owned != [
            {given for row, given in chosen if row in group} for group in groups]]
        needs = [[other for other in range(len(groups)) if other != one and any(
            self.occurring[row] & owned[other] for row in groups[one])] for one in range(len(groups))]
        order = []
        while len(order) < len(groups):
            ready = [one for one in range(len(groups)) if one not in order and set(needs[one]) <= set(order)]
            order.append(min(ready, key=lambda one: groups[one][0]))
        self.blocks = [(tuple(groups[one]), tuple(sorted(owned[one]))) for one in order]
        self.needs = [tuple(sorted(order.index(other) for other in needs[one])) for one in order]

    def kind(self, entry):
        count = sum(entry in chosen for chosen in self.largest)
        return "none" if count == 0 else "all" if count == len(self.largest) else "some"

    def place(self, kind, name):
        side = 0 if kind == "equation" else 1
        return next((number for number, block in enumerate(self.blocks) if name in block[side]), None)
