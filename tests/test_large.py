"""Systems of up to 24 equations and 24 unknowns, checked by ranks of systems with some items left out."""

import time
import unittest

from blockorder.structure import Structure
from tests.making import full, made


def names(letter, many):
    return [f"{letter}{number:02d}" for number in range(many)]


def pseudo_random(seed):
    """Yield numbers from 0 to 999 that look random and are the same in each run."""
    state = seed
    while True:
        state = (state * 1103515245 + 12345) & (2 ** 31 - 1)
        yield state // 65536 % 1000


def scattered(rows, columns, density, seed):
    """Return a Structure in which about this many of 1000 pairs are entries."""
    numbers = pseudo_random(seed)
    entries = [(e, u) for e in names("e", rows) for u in names("x", columns) if next(numbers) < density]
    return Structure(names("e", rows), names("x", columns), entries)


def without(structure, *items):
    """Return the Structure of the system without these items."""
    equations = [name for name in structure.equations if ("equation", name) not in items]
    unknowns = [name for name in structure.unknowns if ("unknown", name) not in items]
    entries = [(e, u) for e, u in structure.entries if e in equations and u in unknowns]
    return Structure(equations, unknowns, entries)


def renamed(structure):
    """Return the Structure with all names in the opposite order, so that another assignment is found."""
    equations = dict(zip(structure.equations, structure.equations[::-1]))
    unknowns = dict(zip(structure.unknowns, structure.unknowns[::-1]))
    entries = [(equations[e], unknowns[u]) for e, u in structure.entries]
    return Structure(structure.equations, structure.unknowns, entries), equations, unknowns


def examples():
    sizes = [(24, 24), (24, 20), (20, 24), (12, 12), (9, 7)]
    return [scattered(rows, columns, density, seed) for seed, (rows, columns) in enumerate(sizes)
            for density in (40, 60, 80, 120, 200)]


class RankTest(unittest.TestCase):
    def test_assignment_and_cover_prove_the_rank(self):
        for structure in examples():
            self.check_rank(structure)

    def check_rank(self, structure):
        assignment = structure.assignment
        self.assertEqual(len(assignment), structure.rank)
        self.assertEqual(list(assignment), sorted(assignment))
        self.assertEqual(len(set(assignment.values())), structure.rank)
        self.assertLessEqual(set(assignment.items()), set(structure.entries))
        self.assertEqual((len(structure.cover), len(set(structure.cover))), (structure.rank, structure.rank))
        for equation, unknown in structure.entries:
            self.assertTrue(("equation", equation) in structure.cover or ("unknown", unknown) in structure.cover)


class PartsTest(unittest.TestCase):
    def test_an_item_is_left_out_if_the_rank_stays_without_it(self):
        for structure in examples():
            over = [e for e in structure.equations if without(structure, ("equation", e)).rank == structure.rank]
            under = [u for u in structure.unknowns if without(structure, ("unknown", u)).rank == structure.rank]
            self.assertEqual(list(structure.over.equations), over)
            self.assertEqual(list(structure.over.unknowns), sorted({u for e, u in structure.entries if e in over}))
            self.assertEqual(list(structure.under.unknowns), under)
            self.assertEqual(list(structure.under.equations), sorted({e for e, u in structure.entries if u in under}))

    def test_each_item_is_in_one_part(self):
        for structure in examples():
            parts = [structure.over, structure.well, structure.under]
            self.assertEqual(sorted(sum([part.equations for part in parts], ())), list(structure.equations))
            self.assertEqual(sorted(sum([part.unknowns for part in parts], ())), list(structure.unknowns))
            self.assertEqual(structure.well.surplus, 0)
            self.assertTrue(structure.over.surplus > 0 or structure.over.is_empty)
            self.assertTrue(structure.under.surplus < 0 or structure.under.is_empty)

    def test_pieces_have_all_items_of_their_part(self):
        for structure in examples():
            for part in (structure.over, structure.well, structure.under):
                pieces = list(part.pieces())
                self.assertEqual(sorted(sum([piece.equations for piece in pieces], ())), list(part.equations))
                self.assertEqual(sorted(sum([piece.unknowns for piece in pieces], ())), list(part.unknowns))
                for e, u in structure.entries:
                    if e in part.equations and u in part.unknowns:
                        self.assertEqual(len([1 for p in pieces if e in p.equations and u in p.unknowns]), 1)


class BlocksTest(unittest.TestCase):
    def test_closed_sets_and_needs(self):
        for structure in examples():
            well = {e: {u for row, u in structure.entries if row == e and u in structure.well.unknowns}
                    for e in structure.well.equations}
            for e in well:
                closed = structure.closed_set(e)
                self.assertIn(e, closed)
                self.assertEqual(len(set().union(*[well[name] for name in closed])), len(closed))
                for other in closed:
                    self.assertLessEqual(set(structure.closed_set(other)), set(closed))
            for block in structure.blocks:
                needs = {structure.block_of(("unknown", u)) for e in block.equations for u in well[e]} - {block.place}
                self.assertEqual(block.needs, tuple(sorted(needs)))
                self.assertTrue(all(number < block.place for number in block.needs))

    def test_blocks_divide_the_well_determined_part(self):
        for structure in examples():
            blocks = structure.blocks
            self.assertEqual(sorted(sum([block.equations for block in blocks], ())), list(structure.well.equations))
            self.assertEqual(sorted(sum([block.unknowns for block in blocks], ())), list(structure.well.unknowns))
            for block in blocks:
                self.assertEqual(block.surplus, 0)
                self.assertEqual(len({structure.closed_set(e) for e in block.equations}), 1)
            self.assertEqual(len({structure.closed_set(e) for e in structure.well.equations}), len(blocks))

    def test_least_equation_that_is_ready_comes_next(self):
        for structure in examples():
            for block in structure.blocks:
                ready = [later for later in structure.blocks[block.place:]
                         if all(number < block.place for number in later.needs)]
                self.assertEqual(block.equations[0], min(later.equations[0] for later in ready))


class KindsTest(unittest.TestCase):
    def test_kinds_by_ranks(self):
        for structure in examples():
            for e, u in structure.entries:
                rest = without(structure, ("equation", e), ("unknown", u)).rank
                left = [entry for entry in structure.entries if entry != (e, u)]
                fewer = Structure(structure.equations, structure.unknowns, left).rank
                kind = "none" if rest + 1 < structure.rank else "all" if fewer < structure.rank else "some"
                self.assertEqual(structure.entry_kind(e, u), kind)


class OtherAssignmentTest(unittest.TestCase):
    def test_answers_do_not_depend_on_the_assignment(self):
        for structure in examples():
            other, equations, unknowns = renamed(structure)
            self.assertEqual(other.rank, structure.rank)
            for one, two in ((structure.over, other.over), (structure.well, other.well),
                             (structure.under, other.under)):
                self.assertEqual(tuple(sorted(equations[e] for e in one.equations)), two.equations)
                self.assertEqual(tuple(sorted(unknowns[u] for u in one.unknowns)), two.unknowns)
            for e, u in structure.entries:
                self.assertEqual(other.entry_kind(equations[e], unknowns[u]), structure.entry_kind(e, u))
            for e in structure.well.equations:
                expected = tuple(sorted(equations[name] for name in structure.closed_set(e)))
                self.assertEqual(other.closed_set(equations[e]), expected)
            self.assertEqual({block.equations for block in other.blocks},
                             {tuple(sorted(equations[e] for e in block.equations)) for block in structure.blocks})


class FullSizeTest(unittest.TestCase):
    def setUp(self):
        self.begin = time.perf_counter()

    def tearDown(self):
        # A search through all assignments or all sets would take years; this allows for a slow machine.
        self.assertLess(time.perf_counter() - self.begin, 5)

    def ask_all(self, structure):
        for e, u in structure.entries:
            structure.entry_kind(e, u)
        for e in structure.equations:
            structure.closed_set(e)
        for part in (structure.over, structure.well, structure.under):
            list(part.pieces())
        return [structure.rank, len(structure.blocks), len(structure.cover)]

    def test_all_entries(self):
        structure = full(24, 24)
        self.assertEqual(self.ask_all(structure), [24, 1, 24])
        self.assertEqual({structure.entry_kind(*entry) for entry in structure.entries}, {"some"})

    def test_one_equation_too_many(self):
        structure = full(24, 23)
        self.assertEqual(self.ask_all(structure), [23, 0, 23])
        self.assertEqual((structure.over.surplus, len(structure.over.equations)), (1, 24))

    def test_one_unknown_too_many(self):
        structure = full(23, 24)
        self.assertEqual(self.ask_all(structure), [23, 0, 23])
        self.assertEqual((structure.under.surplus, len(structure.under.unknowns)), (-1, 24))

    def test_chain_of_blocks(self):
        rows = {name: " ".join(names("x", 24)[:number + 1]) for number, name in enumerate(names("e", 24))}
        structure = made(**rows)
        self.assertEqual(self.ask_all(structure), [24, 24, 24])
        self.assertEqual(structure.blocks[23].needs, tuple(range(23)))
        self.assertEqual(structure.entry_kind("e23", "x23"), "all")
        self.assertEqual(structure.entry_kind("e23", "x00"), "none")

    def test_chain_in_the_opposite_order(self):
        rows = {name: " ".join(names("x", 24)[number:]) for number, name in enumerate(names("e", 24))}
        structure = made(**rows)
        self.assertEqual(self.ask_all(structure), [24, 24, 24])
        self.assertEqual([block.equations for block in structure.walk(reverse=True)],
                         [(name,) for name in names("e", 24)])

    def test_one_long_round(self):
        unknowns = names("x", 24)
        rows = {name: f"{unknowns[place]} {unknowns[place - 1]}" for place, name in enumerate(names("e", 24))}
        structure = made(**rows)
        self.assertEqual(self.ask_all(structure), [24, 1, 24])
        self.assertEqual(structure.closed_set("e07"), tuple(names("e", 24)))

    def test_many_equations_for_few_unknowns(self):
        entries = [(e, u) for e in names("e", 23) for u in names("x", 20)] + [("e23", u) for u in names("x", 24)]
        structure = Structure(names("e", 24), names("x", 24), entries)
        self.assertEqual(self.ask_all(structure), [21, 0, 21])
        self.assertEqual((structure.over.surplus, structure.under.surplus), (3, -3))

    def test_nothing_but_names(self):
        structure = Structure(names("e", 24), names("e", 24), [])
        self.assertEqual(self.ask_all(structure), [0, 0, 0])
        self.assertEqual((structure.over.surplus, structure.under.surplus), (24, -24))


if __name__ == "__main__":
    unittest.main()
