"""The errors of the program. What they store is copied, so it stays as it was when they were raised."""

from blockorder.copies import copied


class BlockorderError(ValueError):
    """The base class of all errors."""


class InvalidName(BlockorderError):
    """An object is not a name."""

    def __init__(self, name):
        self.name = copied(name)


class DuplicateItem(BlockorderError):
    """An item exists already, or is given twice."""

    def __init__(self, item):
        self.item = copied(item)


class UnknownItem(BlockorderError):
    """An item does not exist."""

    def __init__(self, item):
        self.item = copied(item)


class DuplicateEntry(BlockorderError):
    """An entry exists already."""

    def __init__(self, entry):
        self.entry = copied(entry)


class UnknownEntry(BlockorderError):
    """An entry does not exist."""

    def __init__(self, entry):
        self.entry = copied(entry)


class TooLarge(BlockorderError):
    """There is more of something than the limit says."""

    def __init__(self, limit):
        self.limit = copied(limit)


class NoTransaction(BlockorderError):
    """No transaction is open."""


class OpenTransaction(BlockorderError):
    """A transaction is open."""


class NothingToUndo(BlockorderError):
    """There are fewer changes than are to be undone."""


class EditFailed(BlockorderError):
    """The edit with this index fails."""

    def __init__(self, index):
        self.index = copied(index)


class InvalidText(BlockorderError):
    """The lines up to this one are not a written form."""

    def __init__(self, line):
        self.line = copied(line)


class InvalidClaim(BlockorderError):
    """An object is not a claim about the structure."""


class FalseClaim(BlockorderError):
    """A claim is false."""


class InvalidNumber(BlockorderError):
    """An object is not a number of a linear system."""

    def __init__(self, number):
        self.number = copied(number)


class PartNotEmpty(BlockorderError):
    """The part with this name is not empty."""

    def __init__(self, part):
        self.part = copied(part)


class NotDetermined(BlockorderError):
    """An unknown has no determined value."""

    def __init__(self, unknown):
        self.unknown = copied(unknown)


class SingularBlock(BlockorderError):
    """The block with this number is not regular."""

    def __init__(self, number):
        self.number = copied(number)
