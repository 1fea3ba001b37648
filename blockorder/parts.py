"""Parts of a system: the three parts, the blocks, and their pieces."""

from blockorder.graph import linked, neighbours, reached, swapped


class Part:
    """Some equations and unknowns of a system."""

    def __init__(self, equations, unknowns, entries):
        """Make the part; of the entries it keeps those with both ends in it."""
        self._equations = tuple(sorted(equations))
        self._unknowns = tuple(sorted(unknowns))
        self._entries = inner_entries(self._equations, self._unknowns, entries)

    @property
    def equations(self):
        """The names of the equations, ascending."""
        return self._equations

    @property
    def unknowns(self):
        """The names of the unknowns, ascending."""
        return self._unknowns

    @property
    def surplus(self):
        """The number of equations minus the number of unknowns."""
        return len(self._equations) - len(self._unknowns)

    @property
    def is_empty(self):
        """True if there are neither equations nor unknowns."""
        return len(self._equations) == 0 and len(self._unknowns) == 0

    def text(self):
        """Return the names of the equations and of the unknowns."""
        return f"{names_text(self._equations)} | {names_text(self._unknowns)}"

    def pieces(self):
        """Yield the connected pieces of the part, those with an equation first."""
        rows = linked(self._equations, self._entries)
        columns = linked(self._unknowns, swapped(self._entries))
        meetings = {equation: neighbours(rows[equation], columns) for equation in rows}
        placed = set()
        for equation in self._equations:
            if equation not in placed:
                equations = reached([equation], meetings)
                for other in equations:
                    placed.add(other)
                yield Part(equations, neighbours(equations, rows), self._entries)
        for unknown in self._unknowns:
            if not columns[unknown]:
                yield Part([], [unknown], [])


class OverPart(Part):
    """The overdetermined part."""

    def text(self):
        """Return the names behind the name of the part."""
        return "over: " + super().text()


class WellPart(Part):
    """The well-determined part."""

    def text(self):
        """Return the names behind the name of the part."""
        return "well: " + super().text()


class UnderPart(Part):
    """The underdetermined part."""

    def text(self):
        """Return the names behind the name of the part."""
        return "under: " + super().text()


class Block(Part):
    """A block of the well-determined part."""

    def __init__(self, place, needs, equations, unknowns, entries):
        """Make the block with this number, which needs the blocks with the other numbers."""
        super().__init__(equations, unknowns, entries)
        self._place = place
        self._needs = tuple(sorted(needs))

    @property
    def place(self):
        """The number of the block in the order of solving."""
        return self._place

    @property
    def needs(self):
        """The numbers of the blocks that this one needs, ascending."""
        return self._needs

    def text(self):
        """Return the names behind the number of the block."""
        return f"block {self._place}: " + super().text()


def inner_entries(equations, unknowns, entries):
    """Return the entries with both ends among these names, ascending."""
    rows = {equation: True for equation in equations}
    columns = {unknown: True for unknown in unknowns}
    return tuple(sorted([(one, other) for one, other in entries if one in rows and other in columns]))


def names_text(names):
    """Return the names separated by spaces, or a dash in place of none."""
    return " ".join(names) if names else "-"
