"""Largest assignments, and what some largest assignment leaves out.

Rows are a dict from each equation to its unknowns, an assignment is a dict from equations to unknowns.
Each function changes only what it has made itself, so that a property may call it.
"""

from blockorder.graph import linked, reached


def largest_assignment(rows):
    """Return a largest assignment, its equations in the order of the rows."""
    assignment = {}
    for equation in rows:
        assignment = extended(rows, assignment, equation)
    return {equation: assignment[equation] for equation in rows if equation in assignment}


def extended(rows, assignment, start):
    """Return an assignment that also has this equation, or the same one if there is none."""
    owners = inverse(assignment)
    origins = {}
    waiting = [start]
    while waiting:
        equation = waiting.pop()
        for unknown in rows[equation]:
            if unknown in origins:
                continue
            origins[unknown] = equation
            if unknown not in owners:
                return switched(assignment, origins, unknown)
            waiting.append(owners[unknown])
    return assignment


def switched(assignment, origins, last):
    """Return the assignment in which each unknown on the path to the last one goes to its origin."""
    changed = {equation: assignment[equation] for equation in assignment}
    unknown = last
    while unknown is not None:
        equation = origins[unknown]
        given_up = changed.get(equation)
        changed[equation] = unknown
        unknown = given_up
    return changed


def inverse(assignment):
    """Return the dict from the assigned unknowns to their equations."""
    return {assignment[equation]: equation for equation in assignment}


def ever_left_out(links, mates, partners):
    """Return the names that some largest assignment leaves out, ascending.

    The names are all equations or all unknowns. They are linked to the others by entries, the mates are those
    that a largest assignment gives them, the partners those that it gives to the others.
    """
    # Exchanging entries along an alternating path leaves out the end of the path in place of its start.
    left_out = [name for name in links if name not in mates]
    exchanges = {name: [partners[other] for other in links[name] if other in partners] for name in links}
    return reached(left_out, exchanges)


def followers(equations, entries, assigned):
    """Return, for each equation, those to which an assignment, a tuple of entries, gives its unknowns."""
    owners = {unknown: equation for equation, unknown in assigned}
    return linked(equations, [(one, owners[unknown]) for one, unknown in entries if unknown in owners])
