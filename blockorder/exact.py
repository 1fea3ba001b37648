"""Fractions, tuples of a top and a positive bottom in lowest terms, and the exact solutions of blocks."""

from math import gcd, lcm


def fraction(top, bottom):
    """Return the fraction of these integers; the bottom is not 0."""
    shared = gcd(top, bottom) if bottom > 0 else -gcd(top, bottom)
    return (top // shared, bottom // shared)


def weighted_sum(terms):
    """Return the sum of the products of the pairs of an integer and a fraction."""
    top, bottom = 0, 1
    for factor, part in terms:
        top, bottom = fraction(top * part[1] + factor * part[0] * bottom, bottom * part[1])
    return (top, bottom)


def is_satisfied(row, constant, values):
    """Tell whether the values satisfy the equation with these coefficients and this constant."""
    return weighted_sum([(row[unknown], values[unknown]) for unknown in row]) == (constant, 1)


def block_values(block, contents, values):
    """Return the values of the unknowns of the block, ascending, or None if the block is not regular.

    The values of all other unknowns that occur in the block are given.
    """
    rights = [right_side(block, contents, equation, values) for equation in block.equations]
    scale = 1
    for _, bottom in rights:
        scale = lcm(scale, bottom)
    table = []
    for equation, (top, bottom) in zip(block.equations, rights):
        row = contents.rows[equation]
        table.append([row.get(unknown, 0) for unknown in block.unknowns] + [top * (scale // bottom)])
    solved = eliminated(table)
    if solved is None:
        return None
    return {
        unknown: fraction(row[-1], row[at] * scale)
        for at, (unknown, row) in enumerate(zip(block.unknowns, solved))
    }


def right_side(block, contents, equation, values):
    """Return the constant minus what the unknowns outside the block contribute."""
    row = contents.rows[equation]
    outside = [(-row[unknown], values[unknown]) for unknown in row if unknown not in block.unknowns]
    return weighted_sum([(contents.constants[equation], (1, 1))] + outside)


def eliminated(table):
    """Return the rows of integers with nothing left but the diagonal and the last column, or None if none exist."""
    rows = list(table)
    last = 1
    for at in range(len(rows)):
        places = [place for place in range(at, len(rows)) if rows[place][at] != 0]
        if not places:
            return None
        rows[at], rows[places[0]] = rows[places[0]], rows[at]
        chosen = rows[at]
        rows = [row if place == at else without_column(row, chosen, at, last) for place, row in enumerate(rows)]
        last = chosen[at]
    return rows


def without_column(row, chosen, at, last):
    """Return a multiple of the row minus one of the chosen row, with 0 in the column."""
    # All numbers here are determinants of parts of the table, so the division by the last pivot leaves no rest.
    return [(chosen[at] * mine - row[at] * other) // last for mine, other in zip(row, chosen)]
