"""Edits: the calls of editing methods that are written as tuples, and attempts."""

from blockorder.contents import with_coefficient, with_constant, with_entry, with_equation, with_row, with_unknowns
from blockorder.contents import without_entry, without_equation, without_unknown
from blockorder.errors import BlockorderError

MOST_AROUND = 4


class NoEdit(BlockorderError):
    """An object in the place of an edit is none."""


def after_edit(contents, edit, linear, around):
    """Return the contents after the edit, which stands inside so many attempts. Raises an error if it fails."""
    if not isinstance(edit, tuple) or len(edit) == 0:
        raise NoEdit()
    if edit[0] == "attempt":
        return after_attempt(contents, edit[1:], linear, around)
    if linear and edit[0] in ("add_row", "set_coefficient", "set_constant"):
        return after_numbers(contents, edit[0], edit[1:])
    return after_call(contents, edit[0], edit[1:])


def after_attempt(contents, edits, linear, around):
    """Return the contents after all the edits, or as they are if one of them fails."""
    if around > MOST_AROUND:
        raise NoEdit()
    changed = contents
    try:
        for edit in edits:
            changed = after_edit(changed, edit, linear, around + 1)
    except BlockorderError:
        return contents
    return changed


def after_call(contents, word, given):
    """Return the contents after the call of an editing method that every system has."""
    if word == "add_unknown":
        return with_unknowns(contents, given)
    if word == "add_equation" and len(given) >= 1:
        return with_equation(contents, given[0], given[1:])
    if word == "add_entry" and len(given) == 2:
        return with_entry(contents, given[0], given[1])
    if word == "remove_entry" and len(given) == 2:
        return without_entry(contents, given[0], given[1])
    if word == "remove_equation" and len(given) == 1:
        return without_equation(contents, given[0])
    if word == "remove_unknown" and len(given) == 1:
        return without_unknown(contents, given[0])
    raise NoEdit()


def after_numbers(contents, word, given):
    """Return the contents after the call of an editing method that only linear systems have."""
    if word == "add_row" and len(given) == 3 and isinstance(given[2], dict):
        return with_row(contents, given[0], given[1], given[2])
    if word == "set_coefficient" and len(given) == 3:
        return with_coefficient(contents, given[0], given[1], given[2])
    if word == "set_constant" and len(given) == 2:
        return with_constant(contents, given[0], given[1])
    raise NoEdit()
