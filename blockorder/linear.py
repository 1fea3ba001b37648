"""Linear systems: systems whose entries have coefficients and whose equations have constants."""

from blockorder.contents import check_entry, check_equation, contents_of
from blockorder.contents import with_coefficient, with_constant, with_row
from blockorder.errors import NotDetermined, PartNotEmpty, SingularBlock
from blockorder.exact import block_values, is_satisfied
from blockorder.model import System
from blockorder.written import contents_read


class LinearSystem(System):
    """A system in which each equation says what the sum of its unknowns times their coefficients is."""

    LINEAR = True

    @classmethod
    def of(cls, **equations):
        """Return the system with an equation for each keyword, all coefficients 1 and all constants 0."""
        system = cls()
        system._contents = contents_of(equations)
        return system

    @classmethod
    def read(cls, text):
        """Return the linear system with this written form."""
        system = cls()
        system._contents = contents_read(text, cls.LINEAR)
        return system

    def add_row(self, name, constant, coefficients):
        """Add an equation with these numbers."""
        self._take(with_row(self._contents, name, constant, coefficients))

    def set_coefficient(self, equation, unknown, number):
        """Give the entry this coefficient."""
        self._take(with_coefficient(self._contents, equation, unknown, number))

    def set_constant(self, equation, number):
        """Give the equation this constant."""
        self._take(with_constant(self._contents, equation, number))

    def coefficient(self, equation, unknown):
        """Return the coefficient of the entry."""
        check_entry(self._contents, equation, unknown)
        return self._contents.rows[equation][unknown]

    def constant(self, equation):
        """Return the constant of the equation."""
        check_equation(self._contents, equation)
        return self._contents.constants[equation]

    def steps(self):
        """Yield the number of each block and the values of its unknowns, in the order of solving."""
        structure = self.structure
        if not structure.over.is_empty:
            raise PartNotEmpty("over")
        if not structure.under.is_empty:
            raise PartNotEmpty("under")
        values = {}
        for block in structure.blocks:
            found = block_values(block, self._contents, values)
            if found is None:
                raise SingularBlock(block.place)
            values.update(found)
            yield (block.place, found)

    def solve(self):
        """Return the values of all unknowns, ascending."""
        values = {}
        for _, found in self.steps():
            values.update(found)
        return {unknown: values[unknown] for unknown in sorted(values)}

    def value(self, unknown):
        """Return the value that the blocks that are needed for the unknown give it."""
        structure = self.structure
        place = structure.block_of(("unknown", unknown))
        if place is None:
            raise NotDetermined(unknown)
        blocks = needed_blocks(structure, place)
        occurring = [name for block in blocks for one in block.equations for name in self._contents.rows[one]]
        if any([name in structure.over.unknowns for name in occurring]):
            raise NotDetermined(unknown)
        values = {}
        for block in blocks:
            found = block_values(block, self._contents, values)
            if found is None:
                raise SingularBlock(block.place)
            values.update(found)
        return values[unknown]

    def unsatisfied(self, values):
        """Return the equations that the values do not satisfy, ascending."""
        contents = self._contents
        return tuple([
            equation for equation in self.equations
            if not is_satisfied(contents.rows[equation], contents.constants[equation], values)
        ])


def needed_blocks(structure, place):
    """Return the block with this number and all blocks that it needs, in the order of solving."""
    needed = structure.closed_set(structure.blocks[place].equations[0])
    return [block for block in structure.blocks if block.equations[0] in needed]
