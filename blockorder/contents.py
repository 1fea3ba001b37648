"""What a system consists of at one moment, and what each edit makes of it.

No Contents is changed after it was made: an edit returns another one, or raises an error. So an earlier state is
restored by taking its Contents again. Systems without numbers have the coefficients 1 and the constants 0.
"""

from blockorder.errors import DuplicateEntry, DuplicateItem, InvalidName, InvalidNumber, TooLarge
from blockorder.errors import UnknownEntry, UnknownItem
from blockorder.forms import is_coefficient, is_constant, is_name

# The class value System.LIMIT is the same number; it has to be written out there.
MOST = 24


class Contents:
    """The unknowns, the equations with their coefficients, and the constants of a system."""

    def __init__(self, columns, rows, constants):
        """Keep the unknowns, the dict from equations to their coefficients, and that to their constants."""
        self.columns = columns
        self.rows = rows
        self.constants = constants


def contents_of(texts):
    """Return the contents with an equation for each text, the names of its unknowns; None is no equation."""
    rows = {}
    for equation in texts:
        if texts[equation] is not None:
            rows[equation] = {unknown: 1 for unknown in texts[equation].split()}
    columns = tuple(sorted({unknown for equation in rows for unknown in rows[equation]}))
    return Contents(columns, rows, {equation: 0 for equation in rows})


def entries_of(contents):
    """Return the pairs of an equation and an unknown that occurs in it, ascending."""
    return tuple(sorted([(equation, unknown) for equation in contents.rows for unknown in contents.rows[equation]]))


def with_unknowns(contents, names):
    """Return the contents with these unknowns, too."""
    for name in names:
        if not is_name(name):
            raise InvalidName(name)
    seen = set(contents.columns)
    for name in names:
        if name in seen:
            raise DuplicateItem(("unknown", name))
        seen.add(name)
    if len(seen) > MOST:
        raise TooLarge(MOST)
    return Contents(tuple(sorted(seen)), contents.rows, contents.constants)


def with_equation(contents, name, unknowns):
    """Return the contents with this equation, too."""
    return with_terms(contents, name, 0, [(unknown, 1) for unknown in unknowns])


def with_row(contents, name, constant, coefficients):
    """Return the contents with an equation with these numbers, too."""
    if not is_constant(constant):
        raise InvalidNumber(constant)
    terms = list(coefficients.items())
    for _, number in terms:
        if not is_coefficient(number):
            raise InvalidNumber(number)
    return with_terms(contents, name, constant, terms)


def with_terms(contents, name, constant, terms):
    """Return the contents with an equation of these pairs of an unknown and its coefficient, too."""
    if not is_name(name):
        raise InvalidName(name)
    if name in contents.rows:
        raise DuplicateItem(("equation", name))
    if len(contents.rows) >= MOST:
        raise TooLarge(MOST)
    check_unknowns(contents.columns, [unknown for unknown, number in terms])
    rows = replaced(contents.rows, name, {unknown: number for unknown, number in terms})
    return Contents(contents.columns, rows, replaced(contents.constants, name, constant))


def with_entry(contents, equation, unknown):
    """Return the contents with this entry, too."""
    check_ends(contents, equation, unknown)
    if unknown in contents.rows[equation]:
        raise DuplicateEntry((equation, unknown))
    row = replaced(contents.rows[equation], unknown, 1)
    return Contents(contents.columns, replaced(contents.rows, equation, row), contents.constants)


def without_entry(contents, equation, unknown):
    """Return the contents without this entry."""
    check_entry(contents, equation, unknown)
    row = removed(contents.rows[equation], unknown)
    return Contents(contents.columns, replaced(contents.rows, equation, row), contents.constants)


def without_equation(contents, name):
    """Return the contents without this equation and its entries."""
    check_equation(contents, name)
    return Contents(contents.columns, removed(contents.rows, name), removed(contents.constants, name))


def without_unknown(contents, name):
    """Return the contents without this unknown and its entries."""
    check_unknowns(contents.columns, [name])
    columns = tuple([column for column in contents.columns if column != name])
    rows = {equation: removed(contents.rows[equation], name) for equation in contents.rows}
    return Contents(columns, rows, contents.constants)


def with_coefficient(contents, equation, unknown, number):
    """Return the contents in which the entry has this coefficient."""
    check_entry(contents, equation, unknown)
    if not is_coefficient(number):
        raise InvalidNumber(number)
    row = replaced(contents.rows[equation], unknown, number)
    return Contents(contents.columns, replaced(contents.rows, equation, row), contents.constants)


def with_constant(contents, equation, number):
    """Return the contents in which the equation has this constant."""
    check_equation(contents, equation)
    if not is_constant(number):
        raise InvalidNumber(number)
    return Contents(contents.columns, contents.rows, replaced(contents.constants, equation, number))


def check_equation(contents, equation):
    """Raise UnknownItem if there is no such equation."""
    # An object without a hash cannot be looked up in the dict.
    if equation not in list(contents.rows):
        raise UnknownItem(("equation", equation))


def check_unknowns(known, unknowns):
    """Raise an error if one of the unknowns is not known, or else if one of them equals an earlier one."""
    for unknown in unknowns:
        if unknown not in known:
            raise UnknownItem(("unknown", unknown))
    for at, unknown in enumerate(unknowns):
        if unknown in unknowns[:at]:
            raise DuplicateItem(("unknown", unknown))


def check_ends(contents, equation, unknown):
    """Raise UnknownItem if there is no such equation, or else if there is no such unknown."""
    check_equation(contents, equation)
    check_unknowns(contents.columns, [unknown])


def check_entry(contents, equation, unknown):
    """Raise an error if one of the ends does not exist, or else if there is no such entry."""
    check_ends(contents, equation, unknown)
    if unknown not in contents.rows[equation]:
        raise UnknownEntry((equation, unknown))


def replaced(table, key, thing):
    """Return a copy of the dict in which the key has this value."""
    changed = table.copy()
    changed[key] = thing
    return changed


def removed(table, key):
    """Return a copy of the dict without the key."""
    return {other: table[other] for other in table if other != key}
