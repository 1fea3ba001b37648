"""The blocks of the well-determined part, in the order of solving."""

from blockorder.graph import reached
from blockorder.parts import Block


def givers(well, rows, owners):
    """Return, for each well-determined equation, the equations that are given its well-determined unknowns."""
    return {
        equation: [owners[unknown] for unknown in rows[equation] if unknown in well.unknowns]
        for equation in well.equations
    }


def least_closed_sets(links):
    """Return the least closed set of each equation, given the givers of its unknowns."""
    return {equation: tuple(reached([equation], links)) for equation in links}


def ordered_blocks(closed_sets, links, assignment, entries):
    """Return the tuple of the blocks."""
    order = solving_order(closed_sets)
    numbers = {equation: place for place, equations in enumerate(order) for equation in equations}
    blocks = []
    for place, equations in enumerate(order):
        givers_here = [giver for equation in equations for giver in links[equation]]
        needs = sorted({numbers[giver] for giver in givers_here if numbers[giver] != place})
        unknowns = [assignment[equation] for equation in equations]
        blocks.append(Block(place, needs, equations, unknowns, entries))
    return tuple(blocks)


def solving_order(closed_sets):
    """Return the list of the equations of each block, in the order of solving."""
    order = []
    numbered = {}
    while len(numbered) < len(closed_sets):
        ready = [name for name in closed_sets if name not in numbered and is_ready(name, closed_sets, numbered)]
        equations = [name for name in closed_sets[min(ready)] if name not in numbered]
        for equation in equations:
            numbered[equation] = True
        order.append(equations)
    return order


def is_ready(equation, closed_sets, numbered):
    """Tell whether all blocks that the block of the equation needs are numbered."""
    closed = closed_sets[equation]
    return all([name in numbered or closed_sets[name] == closed for name in closed])


def block_places(equations, unknowns, blocks):
    """Return a dict from each item to the number of its block, or to None."""
    places = {}
    for equation in equations:
        places[("equation", equation)] = None
    for unknown in unknowns:
        places[("unknown", unknown)] = None
    for block in blocks:
        for equation in block.equations:
            places[("equation", equation)] = block.place
        for unknown in block.unknowns:
            places[("unknown", unknown)] = block.place
    return places
