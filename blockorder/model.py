"""Systems of equations, given by the unknowns that occur in each equation."""

from blockorder.contents import Contents, contents_of, entries_of, with_entry, with_equation, with_unknowns
from blockorder.contents import without_entry, without_equation, without_unknown
from blockorder.edits import after_edit
from blockorder.errors import BlockorderError, EditFailed, NoTransaction, NothingToUndo, OpenTransaction
from blockorder.structure import Structure
from blockorder.written import contents_read, written_lines


class System:
    """A system of equations that is edited in transactions, and whose changes can be undone."""

    LIMIT = 24
    LINEAR = False

    def __init__(self):
        """Make a system without equations and unknowns."""
        self._contents = Contents((), {}, {})
        # The contents at the beginnings of the open transactions, and those before each change.
        self._begun = []
        self._history = []

    @classmethod
    def of(cls, **equations):
        """Return the system with an equation for each keyword, whose unknowns the text names."""
        system = cls()
        system._contents = contents_of(equations)
        return system

    @classmethod
    def read(cls, text):
        """Return the system with this written form."""
        system = cls()
        system._contents = contents_read(text, cls.LINEAR)
        return system

    def add_unknown(self, *names):
        """Add unknowns."""
        self._take(with_unknowns(self._contents, names))

    def add_equation(self, name, *unknowns):
        """Add an equation in which the unknowns occur."""
        self._take(with_equation(self._contents, name, unknowns))

    def add_entry(self, equation, unknown):
        """Let the unknown occur in the equation."""
        self._take(with_entry(self._contents, equation, unknown))

    def remove_entry(self, equation, unknown):
        """Let the unknown no longer occur in the equation."""
        self._take(without_entry(self._contents, equation, unknown))

    def remove_equation(self, name):
        """Remove the equation and its entries."""
        self._take(without_equation(self._contents, name))

    def remove_unknown(self, name):
        """Remove the unknown and its entries."""
        self._take(without_unknown(self._contents, name))

    def begin(self):
        """Open a transaction, inside the innermost open one."""
        self._begun.append(self._contents)

    def commit(self):
        """Close the innermost open transaction and keep its changes."""
        if not self._begun:
            raise NoTransaction()
        before = self._begun.pop()
        if not self._begun:
            self._history.append(before)

    def rollback(self):
        """Close the innermost open transaction and restore the state at its beginning."""
        if not self._begun:
            raise NoTransaction()
        self._contents = self._begun.pop()

    def apply(self, *edits):
        """Carry out all the edits, or none of them."""
        contents = self._contents
        for index, edit in enumerate(edits):
            try:
                contents = after_edit(contents, edit, self.LINEAR, 0)
            except BlockorderError:
                raise EditFailed(index) from None
        self._take(contents)

    def undo(self, *, count=1):
        """Take back the last changes."""
        if self._begun:
            raise OpenTransaction()
        if count > len(self._history):
            raise NothingToUndo()
        self._contents = self._history[-count]
        self._history = self._history[:-count]

    @property
    def equations(self):
        """The names of the equations, ascending."""
        return tuple(sorted(self._contents.rows))

    @property
    def unknowns(self):
        """The names of the unknowns, ascending."""
        return self._contents.columns

    @property
    def entries(self):
        """The pairs of an equation and an unknown that occurs in it, ascending."""
        return entries_of(self._contents)

    @property
    def depth(self):
        """The number of open transactions."""
        return len(self._begun)

    @property
    def structure(self):
        """The Structure of the system as it is now."""
        contents = self._contents
        return Structure(list(contents.rows), contents.columns, entries_of(contents))

    def __eq__(self, other):
        """Tell whether the other one is the same kind of system with the same equations, unknowns and numbers."""
        if not isinstance(other, System) or self.LINEAR != other.LINEAR:
            return False
        mine, others = self._contents, other._contents
        return mine.columns == others.columns and mine.rows == others.rows and mine.constants == others.constants

    def __str__(self):
        """Return the written form."""
        return "\n".join(written_lines(self._contents, self.LINEAR))

    def _take(self, contents):
        """Go over to the contents that an editing method or apply has made."""
        if not self._begun:
            self._history.append(self._contents)
        self._contents = contents
