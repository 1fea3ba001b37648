"""Structures of systems that are written as keywords, and objects that are no names."""

from blockorder.structure import Structure


def made(*more_unknowns, **equations):
    """Return the Structure with an equation for each keyword, and with unknowns that may occur in none."""
    entries = [(equation, unknown) for equation in equations for unknown in equations[equation].split()]
    unknowns = sorted({unknown for _, unknown in entries} | set(more_unknowns))
    return Structure(list(equations), unknowns, entries)


def full(rows, columns):
    """Return the Structure with this many equations and unknowns and all entries between them."""
    equations = [f"e{number}" for number in range(rows)]
    unknowns = [f"x{number}" for number in range(columns)]
    return Structure(equations, unknowns, [(equation, unknown) for equation in equations for unknown in unknowns])


def nested(depth, kind):
    """Return an object of this many levels of tuples, lists or dicts, or of all three by turns."""
    thing = "e"
    for level in range(depth):
        wrapped = {"tuple": (thing,), "list": [thing], "dict": {"e": thing}}
        thing = wrapped[("tuple", "list", "dict")[level % 3] if kind == "mixed" else kind]
    return thing


def strange_objects():
    """Return objects of all kinds that are no names, no items and no entries."""
    plain = [None, True, False, 0, 1, -3, 10 ** 5000, "", "q", "E", "e ", "e x", "equation", (), [], {}]
    pairs = [("e", "x"), ["e", "x"], {"e": "x"}, ("e",), ["e"], {"equation": "e"}, {("equation", "e"): 1}]
    items = [["equation", "e"], ("equation", "e", "e"), ("equation",), ("equation", "q"), ("unknown", "q"),
             ("equation", "x"), ("unknown", "e"), ("Equation", "e"), ("e", "equation"), ("equation", ["e"]),
             ("equation", ("e",)), ("equation", None), (None, "e"), (["equation"], "e"), ("equation", {"e": 1}),
             (("equation", "e"),), [("equation", "e")]]
    deep = [nested(depth, kind) for depth in (1, 2, 60, 70) for kind in ("tuple", "list", "dict", "mixed")]
    return plain + pairs + items + deep + [("equation", thing) for thing in deep]
