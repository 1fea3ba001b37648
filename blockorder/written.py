"""The written forms of systems and of linear systems."""

from blockorder.contents import Contents, with_equation, with_row, with_unknowns
from blockorder.errors import BlockorderError, InvalidText
from blockorder.forms import is_text


def written_lines(contents, linear):
    """Return the lines of the written form."""
    lines = [" ".join(["unknowns", *contents.columns])]
    for equation in sorted(contents.rows):
        row = contents.rows[equation]
        words = linear_words(row, contents.constants[equation]) if linear else sorted(row)
        lines.append(" ".join([f"{equation}:", *words]))
    return lines


def linear_words(row, constant):
    """Return what is written behind the colon of an equation with these coefficients and this constant."""
    return [f"{row[unknown]} {unknown}" for unknown in sorted(row)] + ["=", str(constant)]


def contents_read(text, linear):
    """Return the contents with this written form. Raises InvalidText if there are none."""
    lines = text.split("\n") if is_text(text) else [""]
    contents = Contents((), {}, {})
    for at, line in enumerate(lines):
        try:
            contents = with_line(contents, line, linear) if at > 0 else with_unknowns(contents, line.split(" ")[1:])
        except BlockorderError:
            raise InvalidText(at) from None
        # The words of a line are taken as they come; only this shows that they stand in the one right way.
        if written_lines(contents, linear) != lines[:at + 1]:
            raise InvalidText(at)
    return contents


def with_line(contents, line, linear):
    """Return the contents with the equation of the line, too."""
    words = line.split(" ")
    name = words[0][:-1]
    if not linear:
        return with_equation(contents, name, words[1:])
    numbers = [number_read(word) for word in words[1:-2:2]]
    coefficients = {unknown: number for unknown, number in zip(words[2:-2:2], numbers)}
    return with_row(contents, name, number_read(words[-1]), coefficients)


def number_read(word):
    """Return the integer that the word stands for, or the word itself if there is none."""
    try:
        return int(word)
    except ValueError:
        # Python also refuses to read a number of some thousands of digits; none of these is allowed here.
        return word
