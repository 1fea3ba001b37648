"""Redundant sets and inputs, compared with points 18 and 19 by trying all sets."""

import random
import unittest
from itertools import combinations, product

from blockorder.choices import inputs, redundant_sets
from blockorder.errors import DuplicateItem, TooLarge, UnknownItem
from blockorder.model import System
from blockorder.structure import Structure
from tests.definitions import subsets
from tests.making import made, strange_objects
from tests.test_certificates import small_structures


def is_redundant(structure, chosen):
    return len({u for e, u in structure.entries if e in chosen}) < len(chosen)


def defined_sets(structure):
    """Return the redundant sets without a redundant proper subset, ascending."""
    redundant = [chosen for chosen in subsets(structure.equations) if is_redundant(structure, chosen)]
    return sorted(chosen for chosen in redundant if not any(set(other) < set(chosen) for other in redundant))


def rank_without(structure, unknowns):
    return Structure(structure.equations, [u for u in structure.unknowns if u not in unknowns],
                     [(e, u) for e, u in structure.entries if u not in unknowns]).rank


def defined_inputs(structure):
    """Return all sets of unknowns without which the rank is the same, and to which none can be added."""
    same = [chosen for chosen in subsets(structure.unknowns) if rank_without(structure, chosen) == structure.rank]
    return [chosen for chosen in same if not any(set(chosen) < set(other) for other in same)]


def comes_first(preferences, found):
    """Return the set that comes before all others."""
    def before(one, other):
        return next((u in one for u in preferences if (u in one) != (u in other)), True)
    return next(one for one in found if all(before(one, other) for other in found))


def wide(rows, columns):
    """Return the Structure with all entries between so many equations and unknowns."""
    return System.of(**{f"e{row:02}": " ".join(f"x{column}" for column in range(columns))
                        for row in range(rows)}).structure


class InterfaceTest(unittest.TestCase):
    def test_functions_are_defined_in_the_module(self):
        self.assertEqual({redundant_sets.__module__, inputs.__module__}, {"blockorder.choices"})

    def test_most_is_passed_by_name(self):
        with self.assertRaises(TypeError):
            list(redundant_sets(made(e=""), 3))

    def test_results_are_plain_tuples(self):
        structure = made("u", a="x", b="x")
        self.assertEqual([type(chosen) for chosen in redundant_sets(structure=structure)], [tuple])
        self.assertIs(type(inputs(structure)), tuple)


class RedundantSetsTest(unittest.TestCase):
    def check(self, structure):
        expected = defined_sets(structure)
        self.assertEqual(list(redundant_sets(structure)), expected[:100])
        for chosen in expected:
            self.assertLessEqual(set(chosen), set(structure.over.equations))
            self.assertEqual(len({u for e, u in structure.entries if e in chosen}), len(chosen) - 1)
        for most in range(len(expected) + 2):
            self.assertEqual(list(redundant_sets(structure, most=most)), expected[:most])

    def test_all_small_systems(self):
        for rows, columns in product(range(4), range(4)):
            for structure in small_structures(rows, columns):
                self.check(structure)
        for columns in range(3):
            for structure in small_structures(4, columns):
                self.check(structure)

    def test_larger_systems(self):
        chooser = random.Random(8)
        for rows, columns in ((6, 4), (7, 5), (8, 3), (9, 9)):
            for _ in range(12):
                density = chooser.choice([0.1, 0.25, 0.4, 0.7])
                equations, unknowns = "hgfedcbai"[:rows], "xyzuvwpqr"[:columns]
                pairs = [(e, u) for e in equations for u in unknowns if chooser.random() < density]
                structure = Structure(equations, unknowns, pairs)
                self.assertEqual(list(redundant_sets(structure, most=10 ** 30)), defined_sets(structure))

    def test_order_is_that_of_tuples(self):
        structure = made(a="x y", b="x", c="y", d="x y", e="x", a1="")
        self.assertEqual(list(redundant_sets(structure)), [("a", "b", "c"), ("a", "b", "d"), ("a", "c", "d"),
                                                           ("a", "c", "e"), ("a", "d", "e"), ("a1",), ("b", "c", "d"),
                                                           ("b", "e"), ("c", "d", "e")])

    def test_first_hundred(self):
        structure = wide(10, 5)
        expected = [tuple(chosen) for chosen in combinations(structure.equations, 6)]
        self.assertEqual(len(expected), 210)
        self.assertEqual(list(redundant_sets(structure)), expected[:100])
        for most in (0, 1, 99, 101, 209, 210, 211, 10 ** 40):
            self.assertEqual(list(redundant_sets(structure, most=most)), expected[:most])

    def test_overdetermined_part_of_ten_and_of_eleven(self):
        for columns in (0, 1, 5, 9):
            self.assertEqual(len(list(redundant_sets(wide(10, columns), most=1))), 1)
        for columns in (0, 1, 5, 9, 10):
            for most in (0, 1, 100, 10 ** 9):
                with self.assertRaises(TooLarge) as caught:
                    list(redundant_sets(wide(11, columns), most=most))
                self.assertEqual(caught.exception.limit, 10)

    def test_only_the_overdetermined_part_counts(self):
        names = [f"x{number}" for number in range(11)]
        system = System.of(**{f"e{number}": " ".join(names) for number in range(11)}, f="w z", g="z", h="z")
        self.assertEqual(system.structure.over.equations, ("g", "h"))
        self.assertEqual(list(redundant_sets(system.structure)), [("g", "h")])
        self.assertEqual(list(redundant_sets(wide(11, 11))), [])
        self.assertEqual(list(redundant_sets(System().structure)), [])

    def test_generators_do_not_disturb_each_other(self):
        structure = wide(4, 2)
        one, other = redundant_sets(structure), redundant_sets(structure, most=2)
        self.assertEqual([next(one), next(other), next(one), next(other)],
                         [("e00", "e01", "e02"), ("e00", "e01", "e02"), ("e00", "e01", "e03"), ("e00", "e01", "e03")])
        self.assertEqual((list(other), len(list(one))), ([], 2))


class InputsTest(unittest.TestCase):
    def check(self, structure, orders):
        found = defined_inputs(structure)
        self.assertEqual({len(chosen) for chosen in found}, {len(structure.unknowns) - structure.rank})
        for preferred in orders:
            rest = [unknown for unknown in structure.unknowns if unknown not in preferred]
            self.assertEqual(inputs(structure, *preferred), comes_first([*preferred, *rest], found))

    def test_all_small_systems(self):
        for rows, columns in product(range(4), range(4)):
            for number, structure in enumerate(small_structures(rows, columns)):
                names = structure.unknowns
                orders = [(), names[::-1], names[1:2], names[-1:], names[1:] + names[:1]]
                self.check(structure, [orders[0], orders[1 + number % 4]])

    def test_larger_systems(self):
        chooser = random.Random(9)
        for _ in range(40):
            rows, columns = chooser.randint(1, 5), chooser.randint(3, 6)
            density = chooser.choice([0.1, 0.25, 0.4, 0.7])
            unknowns = list("zyxuvw"[:columns])
            pairs = [(e, u) for e in "abcde"[:rows] for u in unknowns if chooser.random() < density]
            orders = [chooser.sample(unknowns, chooser.randint(0, columns)) for _ in range(4)]
            self.check(Structure("abcde"[:rows], unknowns, pairs), orders)

    def test_unknowns_that_do_not_exist(self):
        structure = made("z", e="x y")
        for thing in strange_objects() + ["e", ("unknown", "x")]:
            for preferred in ((thing,), ("x", thing), ("x", "x", thing, "w"), (thing, "x", "x")):
                with self.assertRaises(UnknownItem) as caught:
                    inputs(structure, *preferred)
                self.assertEqual(caught.exception.item, ("unknown", thing))

    def test_repeated_unknowns(self):
        structure = made("z", e="x y")
        for preferred, repeated in ((("x", "x"), "x"), (("x", "y", "z", "y", "x"), "y"), (("z", "x", "z", "z"), "z")):
            with self.assertRaises(DuplicateItem) as caught:
                inputs(structure, *preferred)
            self.assertEqual(caught.exception.item, ("unknown", repeated))

    def test_nothing_to_fix(self):
        self.assertEqual(inputs(System().structure), ())
        self.assertEqual(inputs(made(e="x"), "x"), ())
        self.assertEqual(inputs(made("x", "y"), "y"), ("x", "y"))

    def test_24_of_each(self):
        names = [f"x{number}" for number in range(24)]
        structure = wide(20, 24)
        self.assertEqual(inputs(structure), ("x0", "x1", "x10", "x11"))
        self.assertEqual(inputs(structure, *names[::-1]), ("x20", "x21", "x22", "x23"))
        self.assertEqual(inputs(wide(24, 24), *names), ())


if __name__ == "__main__":
    unittest.main()
