"""Copies of the plain objects that callers pass."""


def copied(thing):
    """Return a copy of the object that no later change of its lists and dicts can reach."""
    if isinstance(thing, tuple):
        return tuple([copied(inner) for inner in thing])
    if isinstance(thing, list):
        return [copied(inner) for inner in thing]
    if isinstance(thing, dict):
        return {key: copied(thing[key]) for key in thing}
    return thing
