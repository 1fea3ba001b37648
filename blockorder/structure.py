"""The structure of a system at one moment."""

from blockorder.errors import UnknownEntry, UnknownItem
from blockorder.graph import linked, neighbours, swapped
from blockorder.matching import ever_left_out, inverse, largest_assignment
from blockorder.ordering import block_places, givers, least_closed_sets, ordered_blocks
from blockorder.parts import OverPart, UnderPart, WellPart


class Structure:
    """Which equations are too many, which unknowns stay open, and what is solved in which order."""

    def __init__(self, equations, unknowns, entries):
        """Find the structure of the system with these names and these pairs of an equation and an unknown."""
        self._equations = tuple(sorted(equations))
        self._unknowns = tuple(sorted(unknowns))
        self._entries = tuple(sorted([(equation, unknown) for equation, unknown in entries]))
        rows = linked(self._equations, self._entries)
        columns = linked(self._unknowns, swapped(self._entries))
        self._assignment = largest_assignment(rows)
        owners = inverse(self._assignment)
        too_many = ever_left_out(rows, self._assignment, owners)
        still_open = ever_left_out(columns, owners, self._assignment)
        self._over = OverPart(too_many, neighbours(too_many, rows), self._entries)
        self._under = UnderPart(neighbours(still_open, columns), still_open, self._entries)
        self._well = WellPart(
            [name for name in rows if name not in self._over.equations and name not in self._under.equations],
            [name for name in columns if name not in self._over.unknowns and name not in self._under.unknowns],
            self._entries,
        )
        self._cover = smallest_cover(self._equations, self._over)
        links = givers(self._well, rows, owners)
        self._closed_sets = least_closed_sets(links)
        self._blocks = ordered_blocks(self._closed_sets, links, self._assignment, self._entries)
        self._places = block_places(self._equations, self._unknowns, self._blocks)

    @property
    def equations(self):
        """The names of the equations, ascending."""
        return self._equations

    @property
    def unknowns(self):
        """The names of the unknowns, ascending."""
        return self._unknowns

    @property
    def entries(self):
        """The pairs of an equation and an unknown that occurs in it, ascending."""
        return self._entries

    @property
    def rank(self):
        """The size of the largest assignments."""
        return len(self._assignment)

    @property
    def assignment(self):
        """A largest assignment, a new dict from equations, ascending, to unknowns."""
        return {equation: self._assignment[equation] for equation in self._assignment}

    @property
    def cover(self):
        """A smallest cover, a tuple of items."""
        return self._cover

    @property
    def over(self):
        """The overdetermined part."""
        return self._over

    @property
    def well(self):
        """The well-determined part."""
        return self._well

    @property
    def under(self):
        """The underdetermined part."""
        return self._under

    @property
    def blocks(self):
        """The blocks, ascending by number."""
        return self._blocks

    def walk(self, *, reverse=False):
        """Yield the blocks in the order of solving, or in the opposite order."""
        blocks = self._blocks[::-1] if reverse else self._blocks
        for block in blocks:
            yield block

    def entry_kind(self, equation, unknown):
        """Return whether all, some or none of the largest assignments contain the entry."""
        entry = (equation, unknown)
        if entry not in self._entries:
            raise UnknownEntry(entry)
        if equation in self._over.equations or unknown in self._under.unknowns:
            return "some"
        place = self._places[("equation", equation)]
        if place is None or place != self._places[("unknown", unknown)]:
            return "none"
        return "all" if len(self._blocks[place].equations) == 1 else "some"

    def block_of(self, item):
        """Return the number of the block that contains the item, or None."""
        # An object without a hash cannot be looked up in the dict.
        if item not in list(self._places):
            raise UnknownItem(item)
        return self._places[item]

    def closed_set(self, equation):
        """Return the least closed set of the equation, or None if it is not well-determined."""
        if equation not in self._equations:
            raise UnknownItem(("equation", equation))
        return self._closed_sets.get(equation)


def smallest_cover(equations, over):
    """Return a smallest cover: the overdetermined unknowns and all other equations."""
    # Each of these equations and unknowns has a partner in a largest assignment, and no two have the same entry.
    rows = [("equation", equation) for equation in equations if equation not in over.equations]
    columns = [("unknown", unknown) for unknown in over.unknowns]
    return tuple(rows + columns)
