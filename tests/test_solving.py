"""Solutions of linear systems, compared with determinants that are computed from their definition."""

import random
import time
import unittest
from fractions import Fraction
from itertools import permutations

from blockorder.errors import NotDetermined, PartNotEmpty, SingularBlock, UnknownItem
from blockorder.linear import LinearSystem
from tests.making import strange_objects
from tests.mirror import outcome
from tests.proving import Case

BOUND = 10 ** 9


def determinant(rows):
    """Return the determinant, as the sum over all permutations."""
    total = Fraction(0)
    for order in permutations(range(len(rows))):
        swaps = sum(order[i] > order[j] for j in range(len(order)) for i in range(j))
        product = Fraction((-1) ** swaps)
        for row, column in zip(rows, order):
            product *= row[column]
        total += product
    return total


def square(system, equations, unknowns):
    entries = set(system.entries)
    return [[Fraction(system.coefficient(e, u)) if (e, u) in entries else Fraction(0) for u in unknowns]
            for e in equations]


def pair(number):
    return (number.numerator, number.denominator)


def solved(system, equations, unknowns):
    """Return the values of the unknowns by Cramer's rule, or None if there is not exactly one solution."""
    rows = square(system, equations, unknowns)
    whole = determinant(rows)
    if whole == 0:
        return None
    constants = [Fraction(system.constant(e)) for e in equations]
    return {unknown: pair(determinant([row[:at] + [constant] + row[at + 1:] for row, constant in zip(rows, constants)])
                          / whole) for at, unknown in enumerate(unknowns)}


def regular(system, block):
    return determinant(square(system, *block)) != 0


def expected_value(system, case, unknown):
    """Return the value of the unknown or the error, straight from the interface and point 21."""
    defined = case.defined
    place = defined.place("unknown", unknown)
    if place is None:
        return ("NotDetermined", unknown)
    needed = defined.closed_sets[defined.blocks[place][0][0]]
    if any(e in needed and u in defined.over[1] for e, u in system.entries):
        return ("NotDetermined", unknown)
    numbers = [number for number, block in enumerate(defined.blocks) if block[0][0] in needed]
    for number in numbers:
        if not regular(system, defined.blocks[number]):
            return ("SingularBlock", number)
    unknowns = [u for number in numbers for u in defined.blocks[number][1]]
    return solved(system, sorted(needed), unknowns)[unknown]


def found_value(system, unknown):
    found = []
    return outcome(lambda: found.append(system.value(unknown))) or found[0]


def random_system(chooser, rows, columns, density, numbers):
    system = LinearSystem()
    unknowns = list("zaxyw"[:columns])
    system.add_unknown(*unknowns)
    for name in "cabed"[:rows]:
        chosen = [u for u in unknowns if chooser.random() < density]
        system.add_row(name, chooser.choice([-BOUND, -3, 0, 1, 5]), {u: chooser.choice(numbers) for u in chosen})
    return system


class DefinitionsTest(unittest.TestCase):
    def systems(self):
        chooser = random.Random(20)
        for _ in range(250):
            rows = chooser.randint(0, 5)
            columns = chooser.choice([rows, rows, min(rows + 1, 5), max(rows - 1, 0)])
            numbers = chooser.choice([[1], [1, -1, 2], [3, -7, BOUND, -BOUND]])
            yield random_system(chooser, rows, columns, chooser.choice([0.25, 0.4, 0.6, 0.9]), numbers)

    def test_values(self):
        seen = set()
        for system in self.systems():
            case = Case(system.structure)
            for unknown in system.unknowns:
                expected = expected_value(system, case, unknown)
                self.assertEqual(found_value(system, unknown), expected, (str(system), unknown))
                seen.add(expected[0] if isinstance(expected[0], str) else "value")
        self.assertEqual(seen, {"value", "NotDetermined", "SingularBlock"})

    def test_steps_and_solutions(self):
        seen = []
        for system in self.systems():
            before, case = str(system), Case(system.structure)
            steps, raised = [], None
            try:
                for step in system.steps():
                    steps.append(step)
            except (PartNotEmpty, SingularBlock) as error:
                raised = (type(error).__name__, *vars(error).values())
            seen.append(raised and raised[0])
            self.check_steps(system, case, steps, raised)
            self.assertEqual(str(system), before)
        self.assertEqual({name: seen.count(name) > 5 for name in seen},
                         {None: True, "PartNotEmpty": True, "SingularBlock": True})

    def check_steps(self, system, case, steps, raised):
        defined = case.defined
        if defined.over != (set(), set()):
            self.assertEqual((steps, raised), ([], ("PartNotEmpty", "over")))
        elif defined.under != (set(), set()):
            self.assertEqual((steps, raised), ([], ("PartNotEmpty", "under")))
        else:
            singular = [number for number, block in enumerate(defined.blocks) if not regular(system, block)]
            self.assertEqual(raised, ("SingularBlock", singular[0]) if singular else None)
            many = singular[0] if singular else len(defined.blocks)
            self.assertEqual([number for number, _ in steps], list(range(many)))
            for number, found in steps:
                self.assertEqual(list(found), list(defined.blocks[number][1]))
                for unknown in found:
                    self.assertEqual(found[unknown], expected_value(system, case, unknown))
        found = []
        again = outcome(lambda: found.append(system.solve()))
        self.assertEqual(again, raised)
        if raised is None:
            self.check_solution(system, steps, found[0])

    def check_solution(self, system, steps, solution):
        self.assertEqual(list(solution), list(system.unknowns))
        self.assertEqual(solution, {unknown: found[unknown] for _, found in steps for unknown in found})
        self.assertEqual(solution, solved(system, system.equations, system.unknowns))
        self.assertEqual(system.unsatisfied(solution), ())

    def test_unsatisfied(self):
        chooser = random.Random(21)
        for system in self.systems():
            values = {u: pair(Fraction(chooser.randint(-3, 3), chooser.randint(1, 4))) for u in system.unknowns}
            expected = [e for e in system.equations if sum(
                system.coefficient(e, u) * Fraction(*values[u]) for one, u in system.entries if one == e
            ) != system.constant(e)]
            kept = dict(values)
            found = system.unsatisfied(values)
            self.assertEqual((found, values), (tuple(expected), kept))


class StepsTest(unittest.TestCase):
    def test_values_are_fractions_in_lowest_terms(self):
        system = LinearSystem.read("unknowns v w x y z\na: 6 x = -4\nb: -6 y = -4\nc: 5 z = 0\n"
                                   "d: -2 w = 6\ne: -7 v = 0")
        self.assertEqual(system.solve(), {"v": (0, 1), "w": (-3, 1), "x": (-2, 3), "y": (2, 3), "z": (0, 1)})
        for value in system.solve().values():
            self.assertEqual([type(value), type(value[0]), type(value[1])], [tuple, int, int])

    def test_block_that_needs_a_row_exchange(self):
        system = LinearSystem.read("unknowns x y z\na: 1 y 1 z = 1\nb: 1 x 1 z = 2\nc: 1 x 1 y = 3")
        self.assertEqual(list(system.steps()), [(0, {"x": (2, 1), "y": (1, 1), "z": (0, 1)})])

    def test_singular_block_in_place_of_its_step(self):
        system = LinearSystem.read("unknowns w x y z\na: 2 x = 3\nb: 1 x 1 y 2 z = 0\nc: 2 y 4 z = 1\nd: 5 w = 1")
        steps, found = system.steps(), []
        with self.assertRaises(SingularBlock) as caught:
            for step in steps:
                found.append(step)
        self.assertEqual((found, caught.exception.number), ([(0, {"x": (3, 2)})], 1))
        self.assertEqual(outcome(system.solve), ("SingularBlock", 1))
        self.assertEqual([found_value(system, u) for u in system.unknowns],
                         [(1, 5), (3, 2), ("SingularBlock", 1), ("SingularBlock", 1)])

    def test_a_block_with_equal_rows_is_singular_also_if_there_are_solutions(self):
        system = LinearSystem.read("unknowns x y\na: 1 x 1 y = 1\nb: 1 x 1 y = 1")
        self.assertEqual(outcome(system.solve), ("SingularBlock", 0))

    def test_parts_that_are_not_empty(self):
        for text, part in (("unknowns\ne: = 0", "over"), ("unknowns x", "under"), ("unknowns x\ne: = 0", "over"),
                           ("unknowns x y\na: 1 x 1 y = 0", "under"), ("unknowns x\na: 1 x = 1\nb: 1 x = 1", "over"),
                           ("unknowns w x y z\na: 1 x = 1\nb: 1 x = 1\nc: 1 y 1 z = 0\nd: 1 w = 1", "over")):
            system = LinearSystem.read(text)
            self.assertEqual(outcome(system.solve), ("PartNotEmpty", part))
            self.assertEqual(outcome(lambda: list(system.steps()) and None), ("PartNotEmpty", part))

    def test_empty_system(self):
        self.assertEqual((list(LinearSystem().steps()), LinearSystem().solve()), ([], {}))
        self.assertEqual(LinearSystem().unsatisfied({}), ())

    def test_dicts_are_new(self):
        system = LinearSystem.read("unknowns x y z\na: 2 x = 3\nb: 1 x 1 y = 0\nc: 1 y 1 z = 0")
        expected = [(0, {"x": (3, 2)}), (1, {"y": (-3, 2)}), (2, {"z": (3, 2)})]
        seen = []
        for number, found in system.steps():
            seen.append((number, dict(found)))
            found["x"] = found["y"] = (100, 1)
            found["q"] = None
            system.solve().clear()
        self.assertEqual(seen, expected)
        for number, found in system.steps():
            found.clear()
        self.assertEqual(list(system.steps()), expected)
        system.solve().clear()
        self.assertEqual(system.solve(), {"x": (3, 2), "y": (-3, 2), "z": (3, 2)})

    def test_generators_do_not_disturb_each_other(self):
        system = LinearSystem.read("unknowns x y\na: 2 x = 3\nb: 1 x 1 y = 0")
        one, other = system.steps(), system.steps()
        self.assertEqual([next(one), next(other), next(other), next(one)],
                         [(0, {"x": (3, 2)}), (0, {"x": (3, 2)}), (1, {"y": (-3, 2)}), (1, {"y": (-3, 2)})])


class ValueTest(unittest.TestCase):
    def test_other_blocks_and_parts_do_not_matter(self):
        system = LinearSystem.read("unknowns p q s t x y\na: 2 x = 3\nb: 1 x 3 y = 0\nc: 1 p = 1\nd: 2 p = 1\n"
                                   "e: 1 q 1 s = 0\nf: 1 t = 8")
        self.assertEqual([found_value(system, u) for u in system.unknowns],
                         [("NotDetermined", "p"), ("NotDetermined", "q"), ("NotDetermined", "s"),
                          (8, 1), (3, 2), (-1, 2)])

    def test_overdetermined_unknown_in_a_needed_block(self):
        system = LinearSystem.read("unknowns p x y z\na: 1 p = 1\nb: 1 p = 1\nc: 1 p 1 x = 1\n"
                                   "d: 1 x 1 y = 0\ne: 1 z = 4")
        self.assertEqual([found_value(system, u) for u in system.unknowns],
                         [("NotDetermined", "p"), ("NotDetermined", "x"), ("NotDetermined", "y"), (4, 1)])

    def test_not_determined_comes_before_singular(self):
        system = LinearSystem.read("unknowns p x y z\na: 1 p = 1\nb: 1 p = 1\nc: 1 x 1 y = 1\nd: 1 x 1 y = 1\n"
                                   "e: 1 p 1 x 1 z = 0")
        self.assertEqual([found_value(system, u) for u in system.unknowns],
                         [("NotDetermined", "p"), ("SingularBlock", 0), ("SingularBlock", 0), ("NotDetermined", "z")])

    def test_the_needed_singular_block_with_the_least_number(self):
        system = LinearSystem.read("unknowns p q x y z\na: 1 x 1 y = 0\nb: 1 x 1 y = 0\nc: 1 p 1 q = 0\n"
                                   "d: 1 p 1 q = 0\ne: 1 p 1 z = 0")
        self.assertEqual([block.text() for block in system.structure.walk()],
                         ["block 0: a b | x y", "block 1: c d | p q", "block 2: e | z"])
        self.assertEqual([found_value(system, u) for u in system.unknowns],
                         [("SingularBlock", 1)] * 2 + [("SingularBlock", 0)] * 2 + [("SingularBlock", 1)])
        system.add_entry("e", "x")
        self.assertEqual(found_value(system, "z"), ("SingularBlock", 0))

    def test_own_block_is_singular(self):
        system = LinearSystem.read("unknowns x y\na: 2 x 4 y = 0\nb: 1 x 2 y = 0")
        self.assertEqual(found_value(system, "y"), ("SingularBlock", 0))

    def test_unknown_unknowns(self):
        system = LinearSystem.read("unknowns x\ne: 1 x = 1")
        for thing in strange_objects() + ["e"]:
            with self.assertRaises(UnknownItem) as caught:
                system.value(thing)
            self.assertEqual(caught.exception.item, ("unknown", thing))

    def test_unknown_that_is_in_no_equation(self):
        with self.assertRaises(NotDetermined):
            LinearSystem.read("unknowns x").value("x")


class LargeTest(unittest.TestCase):
    def setUp(self):
        self.chooser = random.Random(22)
        self.equations = [f"e{number:02}" for number in range(24)]
        self.unknowns = [f"x{number:02}" for number in range(24)]

    def number(self, least):
        return self.chooser.choice([-1, 1]) * self.chooser.randint(least, BOUND)

    def check(self, system):
        start = time.monotonic()
        solution = system.solve()
        self.assertEqual(system.unsatisfied(solution), ())
        for unknown in system.unknowns:
            self.assertEqual(system.value(unknown), solution[unknown])
            self.assertEqual(Fraction(*solution[unknown]).denominator, solution[unknown][1])
        self.assertEqual(LinearSystem.read(str(system)).solve(), solution)
        self.assertLess(time.monotonic() - start, 8)

    def filled(self, occurring):
        system = LinearSystem()
        system.add_unknown(*self.unknowns)
        for at, name in enumerate(self.equations):
            chosen = occurring(at)
            system.add_row(name, self.number(BOUND - 99), {unknown: self.number(BOUND - 99) for unknown in chosen})
        return system

    def test_full_system(self):
        system = self.filled(lambda at: self.unknowns)
        self.assertEqual(len(system.structure.blocks), 1)
        self.check(system)

    def test_chains(self):
        self.check(self.filled(lambda at: self.unknowns[max(at - 1, 0):at + 1]))
        system = self.filled(lambda at: self.unknowns[:at + 1])
        self.assertEqual(len(system.structure.blocks), 24)
        self.check(system)

    def test_chain_of_blocks_of_three(self):
        system = self.filled(lambda at: self.unknowns[:at // 3 * 3 + 3])
        self.assertEqual(len(system.structure.blocks), 8)
        self.check(system)

    def test_powers(self):
        system = LinearSystem()
        system.add_unknown(*self.unknowns)
        system.add_row("e00", 1, {"x00": BOUND})
        for at in range(1, 24):
            system.add_row(self.equations[at], 0, {self.unknowns[at]: BOUND, self.unknowns[at - 1]: -1})
        self.assertEqual(system.value("x23"), (1, BOUND ** 24))
        self.assertEqual(system.solve()["x09"], (1, BOUND ** 10))


if __name__ == "__main__":
    unittest.main()
