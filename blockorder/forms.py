"""The forms of plain values: names, integers, texts and the numbers of linear systems."""

LETTERS = "abcdefghijklmnopqrstuvwxyz"
DIGITS = "0123456789"
LONGEST_NAME = 8
# The percent sign is in no text.
PERCENT = 37
BOUND = 1000000000


def is_name(thing):
    """Tell whether the object is the name of an equation or an unknown."""
    if not isinstance(thing, str) or not 1 <= len(thing) <= LONGEST_NAME:
        return False
    return thing[0] in LETTERS and all([sign in LETTERS or sign in DIGITS for sign in thing])


def is_integer(thing):
    """Tell whether the object is an int that is not a bool."""
    return isinstance(thing, int) and not isinstance(thing, bool)


def is_text(thing):
    """Tell whether the object is a text."""
    if not isinstance(thing, str):
        return False
    return all([sign == "\n" or " " <= sign <= "~" and ord(sign) != PERCENT for sign in thing])


def is_constant(thing):
    """Tell whether the object may be the constant of an equation."""
    return is_integer(thing) and -BOUND <= thing <= BOUND


def is_coefficient(thing):
    """Tell whether the object may be the coefficient of an entry."""
    return is_constant(thing) and thing != 0
