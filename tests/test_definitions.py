"""Compares Structure with the definitions for every system of up to 4 equations and 4 unknowns."""

import unittest
from itertools import product

from blockorder.structure import Structure
from tests.definitions import Defined, all_assignments

# Equations and unknowns share names, so that an answer about the wrong kind of item is noticed.
EQUATIONS = "badc"
UNKNOWNS = "cabe"


def names_of(part):
    return (part.equations, part.unknowns)


def ascending(names):
    return tuple([tuple(sorted(side)) for side in names])


class DefinitionsTest(unittest.TestCase):
    def compare_all(self, rows, columns, step=1):
        equations, unknowns = EQUATIONS[:rows], UNKNOWNS[:columns]
        pairs = list(product(equations, unknowns))
        candidates = all_assignments(equations, unknowns)
        for number in range(0, 2 ** len(pairs), step):
            entries = frozenset(pair for place, pair in enumerate(pairs) if number >> place & 1)
            defined = Defined(equations, unknowns, entries, candidates)
            structure = Structure(list(equations), list(unknowns), list(entries))
            try:
                self.compare(structure, defined)
            except AssertionError as error:
                raise AssertionError(f"{equations} {unknowns} {sorted(entries)}: {error}") from error

    def compare(self, structure, defined):
        self.assertEqual(structure.rank, defined.rank)
        self.compare_assignment_and_cover(structure, defined)
        self.assertEqual(names_of(structure.over), ascending(defined.over))
        self.assertEqual(names_of(structure.well), ascending(defined.well))
        self.assertEqual(names_of(structure.under), ascending(defined.under))
        self.assertEqual(defined.other_owners, [])
        self.assertEqual([names_of(block) for block in structure.blocks], defined.blocks)
        self.assertEqual([block.needs for block in structure.blocks], defined.needs)
        self.assertEqual([block.place for block in structure.blocks], list(range(len(defined.blocks))))
        self.compare_lookups(structure, defined)

    def compare_assignment_and_cover(self, structure, defined):
        assignment = structure.assignment
        self.assertEqual(list(assignment), sorted(assignment))
        self.assertIn(frozenset(assignment.items()), defined.largest)
        cover = structure.cover
        self.assertEqual((len(cover), len(set(cover))), (defined.rank, defined.rank))
        for kind, name in cover:
            self.assertIn(name, {"equation": defined.equations, "unknown": defined.unknowns}[kind])
        for equation, unknown in defined.entries:
            self.assertTrue(("equation", equation) in cover or ("unknown", unknown) in cover)

    def compare_lookups(self, structure, defined):
        for entry in defined.entries:
            self.assertEqual(structure.entry_kind(*entry), defined.kind(entry), entry)
        for name in defined.equations:
            self.assertEqual(structure.block_of(("equation", name)), defined.place("equation", name))
            closed = defined.closed_sets.get(name)
            self.assertEqual(structure.closed_set(name), None if closed is None else tuple(sorted(closed)))
        for name in defined.unknowns:
            self.assertEqual(structure.block_of(("unknown", name)), defined.place("unknown", name))

    def test_small_systems(self):
        for rows, columns in product(range(5), range(5)):
            if rows * columns < 12:
                self.compare_all(rows, columns)

    def test_one_unknown_too_few(self):
        self.compare_all(4, 3)

    def test_one_unknown_too_many(self):
        self.compare_all(3, 4)

    def test_four_equations_and_four_unknowns(self):
        self.compare_all(4, 4)


if __name__ == "__main__":
    unittest.main()
