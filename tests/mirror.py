"""A slow system of plain sets and dicts, written straight from points 4 to 9, 20 and 22, to compare with."""

import copy
import re

from blockorder import errors

EDITS = ("add_unknown", "add_equation", "add_entry", "remove_entry", "remove_equation", "remove_unknown")
LINEAR_EDITS = EDITS + ("add_row", "set_coefficient", "set_constant")


class Failure(Exception):
    """An error that the document names: the name of its class and its fields."""


def is_name(thing):
    return isinstance(thing, str) and re.fullmatch("[a-z][a-z0-9]{0,7}", thing) is not None


def is_number(thing):
    return type(thing) is int and abs(thing) <= 10 ** 9


class Mirror:
    def __init__(self, linear):
        self.linear = linear
        self.state = {"unknowns": [], "rows": {}, "constants": {}}
        self.begun, self.past = [], []

    def known(self, kind, name):
        return isinstance(name, str) and name in (self.state["rows"] if kind == "equation" else self.state["unknowns"])

    def need(self, kind, name):
        if not self.known(kind, name):
            raise Failure("UnknownItem", (kind, name))

    def need_entry(self, equation, unknown):
        self.need("equation", equation)
        self.need("unknown", unknown)
        if unknown not in self.state["rows"][equation]:
            raise Failure("UnknownEntry", (equation, unknown))

    def add_unknown(self, *names):
        for name in names:
            if not is_name(name):
                raise Failure("InvalidName", name)
        for at, name in enumerate(names):
            if self.known("unknown", name) or name in names[:at]:
                raise Failure("DuplicateItem", ("unknown", name))
        if len(self.state["unknowns"]) + len(names) > 24:
            raise Failure("TooLarge", 24)
        self.state["unknowns"] += names

    def add_equation(self, name, *unknowns):
        self.add_numbers(name, 0, unknowns, [1] * len(unknowns))

    def add_row(self, name, constant, coefficients):
        if not is_number(constant):
            raise Failure("InvalidNumber", constant)
        for number in coefficients.values():
            if not is_number(number) or number == 0:
                raise Failure("InvalidNumber", number)
        self.add_numbers(name, constant, list(coefficients), list(coefficients.values()))

    def add_numbers(self, name, constant, unknowns, numbers):
        if not is_name(name):
            raise Failure("InvalidName", name)
        if self.known("equation", name):
            raise Failure("DuplicateItem", ("equation", name))
        if len(self.state["rows"]) == 24:
            raise Failure("TooLarge", 24)
        for unknown in unknowns:
            self.need("unknown", unknown)
        for at, unknown in enumerate(unknowns):
            if unknown in unknowns[:at]:
                raise Failure("DuplicateItem", ("unknown", unknown))
        self.state["rows"][name] = dict(zip(unknowns, numbers))
        self.state["constants"][name] = constant

    def add_entry(self, equation, unknown):
        self.need("equation", equation)
        self.need("unknown", unknown)
        if unknown in self.state["rows"][equation]:
            raise Failure("DuplicateEntry", (equation, unknown))
        self.state["rows"][equation][unknown] = 1

    def remove_entry(self, equation, unknown):
        self.need_entry(equation, unknown)
        del self.state["rows"][equation][unknown]

    def remove_equation(self, name):
        self.need("equation", name)
        del self.state["rows"][name], self.state["constants"][name]

    def remove_unknown(self, name):
        self.need("unknown", name)
        self.state["unknowns"].remove(name)
        for row in self.state["rows"].values():
            row.pop(name, None)

    def set_coefficient(self, equation, unknown, number):
        self.need_entry(equation, unknown)
        if not is_number(number) or number == 0:
            raise Failure("InvalidNumber", number)
        self.state["rows"][equation][unknown] = number

    def set_constant(self, equation, number):
        self.need("equation", equation)
        if not is_number(number):
            raise Failure("InvalidNumber", number)
        self.state["constants"][equation] = number

    def edit(self, edit, around=0):
        """Carry out an edit of apply; raise Failure if it fails."""
        if type(edit) is not tuple or not edit or type(edit[0]) is not str:
            raise Failure("none")
        before = copy.deepcopy(self.state)
        if edit[0] == "attempt":
            if around == 5:
                raise Failure("none")
            try:
                for inner in edit[1:]:
                    self.edit(inner, around + 1)
            except Failure:
                self.state = before
            return
        if edit[0] not in (LINEAR_EDITS if self.linear else EDITS):
            raise Failure("none")
        least, most = {"add_unknown": (0, 999), "add_equation": (1, 999), "add_entry": (2, 2), "remove_entry": (2, 2),
                       "remove_equation": (1, 1), "remove_unknown": (1, 1), "add_row": (3, 3),
                       "set_coefficient": (3, 3), "set_constant": (2, 2)}[edit[0]]
        if not least <= len(edit) - 1 <= most or edit[0] == "add_row" and type(edit[3]) is not dict:
            raise Failure("none")
        getattr(self, edit[0])(*edit[1:])

    def apply(self, *edits):
        before = copy.deepcopy(self.state)
        for index, edit in enumerate(edits):
            try:
                self.edit(edit)
            except Failure:
                self.state = before
                raise Failure("EditFailed", index) from None

    def begin(self):
        self.begun.append(copy.deepcopy(self.state))

    def commit(self):
        if not self.begun:
            raise Failure("NoTransaction")
        before = self.begun.pop()
        if not self.begun:
            self.past.append(before)

    def rollback(self):
        if not self.begun:
            raise Failure("NoTransaction")
        self.state = self.begun.pop()

    def undo(self, *, count=1):
        if self.begun:
            raise Failure("OpenTransaction")
        if count > len(self.past):
            raise Failure("NothingToUndo")
        for _ in range(count):
            self.state = self.past.pop()

    def call(self, word, *given, **named):
        """Call the method; return None, or the name of the error and its fields."""
        before = copy.deepcopy(self.state)
        try:
            getattr(self, word)(*given, **named)
        except Failure as failure:
            return failure.args
        if word in LINEAR_EDITS + ("apply",) and not self.begun:
            self.past.append(before)
        return None

    def written(self):
        lines = [" ".join(["unknowns"] + sorted(self.state["unknowns"]))]
        for equation, row in sorted(self.state["rows"].items()):
            words = [f"{equation}:"]
            for unknown in sorted(row):
                words += [str(row[unknown]), unknown] if self.linear else [unknown]
            words += ["=", str(self.state["constants"][equation])] if self.linear else []
            lines.append(" ".join(words))
        return "\n".join(lines)


def outcome(call):
    """Return None, or the name of the error that the call raises and its fields."""
    try:
        assert call() is None
    except errors.BlockorderError as error:
        return (type(error).__name__, *vars(error).values())
    return None
