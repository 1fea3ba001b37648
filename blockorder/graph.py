"""Links between names, and what is reached over them."""


def linked(names, pairs):
    """Return a dict from each name to the list of what it is paired with."""
    links = {}
    for name in names:
        links[name] = []
    for name, other in pairs:
        links[name].append(other)
    return links


def swapped(pairs):
    """Return the pairs with their ends exchanged."""
    return [(second, first) for first, second in pairs]


def neighbours(names, links):
    """Return all to which one of the names is linked, ascending."""
    return sorted({other for name in names for other in links[name]})


def reached(starts, links):
    """Return the starts and all names that are reached from them over links, ascending."""
    found = set(starts)
    waiting = list(starts)
    while waiting:
        name = waiting.pop()
        for other in links[name]:
            if other not in found:
                found.add(other)
                waiting.append(other)
    return sorted(found)


def path(start, goal, links):
    """Return the names on a path over links from the start to the goal, which is reached from it."""
    origins = {start: None}
    waiting = [start]
    while goal not in origins:
        name = waiting.pop()
        for other in links[name]:
            if other not in origins:
                origins[other] = name
                waiting.append(other)
    names = [goal]
    while names[-1] != start:
        names.append(origins[names[-1]])
    return tuple(names[::-1])
