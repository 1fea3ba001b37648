"""Written forms of systems and of linear systems: reading, writing, and the number of the first wrong line."""

import random
import re
import unittest

from blockorder.errors import InvalidText
from blockorder.linear import LinearSystem
from blockorder.model import System
from tests.making import strange_objects

NAME = "[a-z][a-z0-9]{0,7}"
NUMBER = "(?:0|-?[1-9][0-9]*)"
FIRST = re.compile(f"unknowns((?: {NAME})*)")
ROW = {False: re.compile(f"({NAME}):((?: {NAME})*)"),
       True: re.compile(f"({NAME}):((?: {NUMBER} {NAME})*) = ({NUMBER})")}


def is_ascending(names):
    return all(one < other for one, other in zip(names, names[1:]))


def is_written(lines, linear):
    """Tell whether these lines are a written form."""
    first = FIRST.fullmatch(lines[0])
    if first is None:
        return False
    unknowns = first[1].split()
    rows = [ROW[linear].fullmatch(line) for line in lines[1:]]
    if None in rows or len(rows) > 24 or len(unknowns) > 24 or not is_ascending(unknowns):
        return False
    return is_ascending([row[1] for row in rows]) and all(is_row(row, unknowns, linear) for row in rows)


def is_row(row, unknowns, linear):
    words = row[2].split()
    names, numbers = (words[1::2], words[::2]) if linear else (words, [])
    if not is_ascending(names) or not set(names) <= set(unknowns):
        return False
    if linear and (len(row[3]) > 20 or abs(int(row[3])) > 10 ** 9):
        return False
    return all(len(number) <= 20 and 0 < abs(int(number)) <= 10 ** 9 for number in numbers)


def first_wrong_line(text, linear):
    """Return the number of the first line up to which there is no written form, or None."""
    lines = text.split("\n")
    return next((at for at in range(len(lines)) if not is_written(lines[:at + 1], linear)), None)


def line_of(kind, text):
    """Return the number in the error that reading the text raises, or None."""
    try:
        kind.read(text)
    except InvalidText as error:
        return error.line
    return None


class ReadTest(unittest.TestCase):
    def check(self, kind, text):
        expected = first_wrong_line(text, kind is LinearSystem)
        self.assertEqual(line_of(kind, text), expected, repr(text))
        if expected is None:
            self.assertEqual(str(kind.read(text)), text)

    def test_written_forms(self):
        for text in ("unknowns", "unknowns x", "unknowns unknowns\nunknowns: unknowns", "unknowns\ne:",
                     "unknowns x\ne:", "unknowns a10 a2 b\ne1: a10 b\ne10:\ne2: a2", "unknowns x y\ne: x\nf: x y\ng:",
                     "unknowns abcdefgh\nabcdefgh: abcdefgh", "unknowns e\ne: e"):
            self.assertEqual(str(System.read(text)), text)
            self.assertIsNone(first_wrong_line(text, False))

    def test_linear_written_forms(self):
        for text in ("unknowns", "unknowns x", "unknowns x y\ne: 2 x -1 y = 5\nf: = 0", "unknowns\ne: = -7",
                     "unknowns x\ne: 1000000000 x = -1000000000", "unknowns x\ne: -1000000000 x = 1000000000",
                     "unknowns unknowns\nunknowns: 1 unknowns = 10"):
            self.assertEqual(str(LinearSystem.read(text)), text)
            self.assertIsNone(first_wrong_line(text, True))

    def test_what_a_text_gives(self):
        system = System.read("unknowns w x y z\ne: x y\nf: x z\ng:")
        self.assertEqual((system.equations, system.unknowns), (("e", "f", "g"), ("w", "x", "y", "z")))
        self.assertEqual(system.entries, (("e", "x"), ("e", "y"), ("f", "x"), ("f", "z")))
        linear = LinearSystem.read("unknowns x y\na: 3 x -4 y = 5\nb: = -6")
        self.assertEqual((linear.equations, linear.unknowns), (("a", "b"), ("x", "y")))
        self.assertEqual([linear.coefficient("a", "x"), linear.coefficient("a", "y")], [3, -4])
        self.assertEqual([linear.constant("a"), linear.constant("b")], [5, -6])
        self.assertIs(type(linear), LinearSystem)

    def test_no_texts(self):
        for thing in strange_objects() + [b"unknowns", 2.5]:
            for kind in (System, LinearSystem):
                self.assertEqual(line_of(kind, thing), 0)

    def test_characters_that_are_in_no_text(self):
        for sign in ("\t", "\r", "%", "\x00", "\x7f", "\xe9", "\u2028", "\u0661"):
            for kind in (System, LinearSystem):
                self.assertEqual(line_of(kind, f"unknowns x\n{sign}: = 0"), 0)
                self.assertEqual(line_of(kind, f"unknowns\n{sign}"), 0)

    def test_characters_that_are_in_texts(self):
        for number in range(ord(" "), ord("~") + 1):
            if number != 37:
                for kind in (System, LinearSystem):
                    self.assertEqual(line_of(kind, f"unknowns x y\n{chr(number)}"), 1)

    def test_wrong_first_lines(self):
        for line in ("", " ", "\n", "unknown", "Unknowns", "unknowns ", " unknowns", "unknowns:", "unknowns: x",
                     "unknowns  x", "unknowns x ", "unknowns x  y", "unknowns y x", "unknowns x x", "unknowns X",
                     "unknowns 1", "unknowns abcdefghi", "unknownsx", "e: x", "e:", "unknowns x, y", "x y", "x"):
            for kind in (System, LinearSystem):
                self.assertEqual(line_of(kind, line), 0, line)
                self.assertEqual(line_of(kind, line + "\na: = 0\nb: = 0"), 0, line)

    def test_wrong_equations(self):
        for line in ("", " ", "e", "e :", "e: ", " e:", "e:  x", "e: x ", "e:x", "e: x y ", "e: y x", "e: x x", "e: q",
                     "E:", "1:", ":", ": x", "abcdefghi:", "e: x, y", "e: 1 x = 0", "d:", "c: x", "e: e", "e:: x",
                     "e x:", "unknowns x y", "e:\t"):
            expected = 0 if "\t" in line else 2
            self.assertEqual(line_of(System, f"unknowns x y\nd: x\n{line}"), expected, line)
            self.assertEqual(line_of(System, f"unknowns x y\nd: x\n{line}\nf:\nq q"), expected, line)

    def test_wrong_linear_equations(self):
        for line in ("", "e:", "e: ", "e: =", "e: = ", "e:= 0", "e: =0", "e: = 0 ", "e:  = 0", "e: =  0", "e: x = 0",
                     "e: 1 x", "e: 1 x =", "e: 1 = 0", "e: 1 x 2 = 0", "e: x 1 = 0", "e: 0 x = 0", "e: -0 x = 0",
                     "e: 1 x = -0", "e: 1 x = 00", "e: 01 x = 0", "e: +1 x = 0", "e: 1 x = +3", "e: 1 y 1 x = 0",
                     "e: 1 x 1 x = 0", "e: 1 x 2 x = 0", "e: 1 q = 0", "e: 1 x = 1_0", "e: 1_0 x = 0", "e: 1.0 x = 0",
                     "e: 1 x = 1.0", "e: 1 x = x", "e: = 0 = 0", "e: 1 x = 0 = 0", "e: 1 x = 0 y", "= 0", ": = 0",
                     "E: = 0", "d: = 0", "c: = 0", "abcdefghi: = 0", "e: - x = 0", "e: -1x = 0", "e: 1x = 0",
                     "e: 1 x = - 1", "e: --1 x = 0", "e: 1000000001 x = 0", "e: -1000000001 x = 0",
                     "e: 1 x = 1000000001", "e: 1 x = -1000000001", "e: 1 x = 0x1", "e: 1 x = 1e3", "e: 1 x 1 y 0",
                     "e: 1 x 1 y == 0", "e: 99999999999 x = 0", "e: = 99999999999", "e: 1 x = 0  ", "e: 1 = x 0"):
            self.assertEqual(line_of(LinearSystem, f"unknowns x y\nd: 1 x = 0\n{line}"), 2, line)
            self.assertEqual(line_of(LinearSystem, f"unknowns x y\nd: 1 x = 0\n{line}\nf: = 0"), 2, line)
            self.assertEqual(first_wrong_line(f"unknowns x y\nd: 1 x = 0\n{line}", True), 2, line)

    def test_numbers_of_any_length(self):
        for digits in ("9" * 4299, "9" * 4300, "9" * 4301, "1" + "0" * 6000, "-" + "9" * 6000, "0" * 6000,
                       "0" * 6000 + "1"):
            self.assertEqual(line_of(LinearSystem, f"unknowns x\na: = 1\ne: {digits} x = 0\nf: = 0"), 2)
            self.assertEqual(line_of(LinearSystem, f"unknowns x\na: = 1\ne: 1 x = {digits}"), 2)

    def test_the_other_form_is_not_read(self):
        self.assertEqual(line_of(System, "unknowns x\ne: 1 x = 0"), 1)
        self.assertEqual(line_of(LinearSystem, "unknowns x\ne: x"), 1)
        self.assertEqual(line_of(System, "unknowns x\ne: = 0"), 1)
        self.assertEqual(line_of(LinearSystem, "unknowns x\ne:"), 1)

    def test_newline_at_the_end(self):
        for kind, text in ((System, "unknowns x\ne: x"), (LinearSystem, "unknowns x\ne: 1 x = 0")):
            self.assertEqual(line_of(kind, "unknowns\n"), 1)
            self.assertEqual(line_of(kind, text + "\n"), 2)
            self.assertEqual(line_of(kind, text + "\n\n"), 2)
            self.assertEqual(line_of(kind, "\n" + text), 0)
            self.assertEqual(line_of(kind, text.replace("\n", "\n\n")), 1)

    def test_24_of_each(self):
        names = [f"n{number:02}" for number in range(26)]
        for kind, end in ((System, ""), (LinearSystem, " = 1")):
            for many in (23, 24):
                self.check(kind, " ".join(["unknowns", *names[:many]]))
                self.check(kind, "\n".join(["unknowns", *[f"{name}:{end}" for name in names[:many]]]))
            self.assertEqual(line_of(kind, " ".join(["unknowns", *names[:25]])), 0)
            self.assertEqual(line_of(kind, "\n".join(["unknowns", *[f"{name}:{end}" for name in names[:25]]])), 25)
            self.assertEqual(line_of(kind, "\n".join(["unknowns", *[f"{name}:{end}" for name in names[:26]]])), 25)
            lines = [f"{name}:{end}" for name in names[:23]] + ["n22:"]
            self.assertEqual(line_of(kind, "\n".join(["unknowns", *lines])), 24)

    def test_changed_texts(self):
        chooser = random.Random(7)
        plain = ["unknowns a b c\na: a b\nb: c\nc:", "unknowns x\ne: x\nf: x", "unknowns\ne:\nf:"]
        linear = ["unknowns a b\na: 1 a -20 b = 0\nb: 3 b = -5\nc: = 10", "unknowns x\ne: 1000000000 x = -1000000000"]
        wrong = 0
        for kind, texts in ((System, plain), (LinearSystem, linear)):
            for _ in range(4000):
                text = chooser.choice(texts)
                for _ in range(chooser.randint(1, 2)):
                    text = self.changed(chooser, text)
                self.check(kind, text)
                wrong += line_of(kind, text) is not None
        self.assertLess(wrong, 7900)

    def changed(self, chooser, text):
        at, end = sorted(chooser.randint(0, len(text)) for _ in range(2))
        change = chooser.randint(0, 5)
        if change == 0:
            return text[:at] + chooser.choice(" \n:=-01abx") + text[at:]
        if change == 1:
            return text[:at] + text[at + 1:]
        if change == 2:
            return text[:at] + chooser.choice(" \n:=-029abcx") + text[at + 1:]
        if change == 3:
            return text[:at] + text[end:]
        lines = text.split("\n")
        if change == 4:
            chooser.shuffle(lines)
        else:
            lines.insert(chooser.randint(0, len(lines)), chooser.choice(lines))
        return "\n".join(lines)


class WriteTest(unittest.TestCase):
    def test_what_is_written_is_read_again(self):
        chooser = random.Random(5)
        for kind in (System, LinearSystem):
            for _ in range(100):
                system = kind()
                names = chooser.sample(["a", "b", "c", "unknowns", "z9", "abcdefgh"], chooser.randint(0, 6))
                system.add_unknown(*names)
                for name in chooser.sample(["a", "b", "unknowns", "e1", "e10"], chooser.randint(0, 5)):
                    chosen = chooser.sample(names, chooser.randint(0, len(names)))
                    if kind is System:
                        system.add_equation(name, *chosen)
                    else:
                        numbers = [chooser.choice([-10 ** 9, -2, -1, 1, 7, 10 ** 9]) for _ in chosen]
                        system.add_row(name, chooser.choice([-10 ** 9, -1, 0, 3, 10 ** 9]), dict(zip(chosen, numbers)))
                text = str(system)
                self.assertIs(type(text), str)
                self.assertTrue(is_written(text.split("\n"), kind is LinearSystem), text)
                self.assertEqual(kind.read(text), system)
                self.assertEqual(str(kind.read(text)), text)

    def test_full_system(self):
        names = [f"n{number:02}" for number in range(24)]
        for kind in (System, LinearSystem):
            system = kind.of(**{name: " ".join(names) for name in names})
            self.assertEqual(kind.read(str(system)), system)


if __name__ == "__main__":
    unittest.main()
