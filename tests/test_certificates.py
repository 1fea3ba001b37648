"""Claims and certificates, compared with points 16 and 17 for all small systems and all candidates."""

import copy
import random
import time
import unittest
from itertools import combinations

from blockorder import certificates
from blockorder.certificates import certificate, is_certificate
from blockorder.errors import FalseClaim, InvalidClaim
from blockorder.linear import LinearSystem
from blockorder.model import System
from blockorder.structure import Structure
from tests.making import made, nested, strange_objects
from tests.proving import Case


def small_structures(rows, columns):
    """Yield the Structures of all systems of this size."""
    equations, unknowns = ["a", "b", "c", "d"][:rows], ["a", "x", "y", "z"][:columns]
    pairs = [(e, u) for e in equations for u in unknowns]
    for size in range(len(pairs) + 1):
        for entries in combinations(pairs, size):
            yield Structure(equations, unknowns, entries)


def shuffled(chooser, thing):
    """Return the certificate with the entries of its assignments and the items of its covers in another order."""
    return tuple(tuple(chooser.sample(member, len(member))) if type(member) is tuple else member for member in thing)


class InterfaceTest(unittest.TestCase):
    def test_functions_are_defined_in_the_module(self):
        self.assertEqual(certificate.__module__, "blockorder.certificates")
        self.assertEqual(is_certificate.__module__, "blockorder.certificates")
        self.assertEqual(certificates.__name__, "blockorder.certificates")

    def test_arguments_have_the_names_of_the_interface(self):
        structure = made(e="x")
        proof = certificate(structure=structure, claim=("rank", 1))
        self.assertIs(is_certificate(structure=structure, claim=("rank", 1), thing=proof), True)

    def test_structures_of_linear_systems(self):
        structure = LinearSystem.read("unknowns x\ne: 2 x = 3").structure
        self.assertIs(is_certificate(structure, ("rank", 1), certificate(structure, ("rank", 1))), True)


class TruthTest(unittest.TestCase):
    def check(self, structure):
        case = Case(structure)
        for claim in case.claims():
            if case.is_true(claim):
                proof = certificate(structure, claim)
                self.assertTrue(case.is_right(claim, proof), (structure.entries, claim, proof))
                self.assertIs(is_certificate(structure, claim, proof), True)
            else:
                with self.assertRaises(FalseClaim):
                    certificate(structure, claim)

    def test_true_claims_have_certificates_and_false_ones_raise(self):
        for rows in range(4):
            for columns in range(4):
                for structure in small_structures(rows, columns):
                    self.check(structure)

    def test_some_systems_of_four_and_more(self):
        chooser = random.Random(11)
        for _ in range(60):
            equations, unknowns = ["a", "b", "c", "d", "e"][:chooser.randint(3, 5)], ["x", "y", "z", "a"]
            density = chooser.random()
            pairs = [(e, u) for e in equations for u in unknowns if chooser.random() < density]
            self.check(Structure(equations, unknowns, pairs))


class CheckerTest(unittest.TestCase):
    def check(self, structure, every):
        case = Case(structure)
        for claim in case.claims():
            accepted = 0
            for thing in case.candidates(claim, every):
                found = is_certificate(structure, claim, thing)
                self.assertIs(found, case.is_right(claim, thing), (structure.entries, claim, thing))
                accepted += found
            if every or accepted:
                # A chain of three equations is enough here.
                self.assertEqual(accepted > 0, case.is_true(claim), (structure.entries, claim))

    def test_all_candidates_for_systems_of_up_to_two(self):
        for rows in range(3):
            for columns in range(3):
                for structure in small_structures(rows, columns):
                    self.check(structure, True)

    def test_all_certificates_for_some_larger_systems(self):
        chooser = random.Random(2)
        for rows, columns in ((3, 2), (2, 3), (3, 3)):
            for structure in chooser.sample(list(small_structures(rows, columns)), 40):
                self.check(structure, False)

    def test_order_does_not_matter(self):
        chooser = random.Random(3)
        for structure in chooser.sample(list(small_structures(3, 3)), 60):
            case = Case(structure)
            for claim in case.claims():
                if claim[0] != "needs" and case.is_true(claim):
                    proof = shuffled(chooser, certificate(structure, claim))
                    self.assertIs(is_certificate(structure, claim, proof), True)

    def test_changed_certificates(self):
        chooser = random.Random(4)
        strange = strange_objects()
        for structure in chooser.sample(list(small_structures(3, 3)), 120):
            case = Case(structure)
            for claim in case.claims():
                if case.is_true(claim):
                    proof = certificate(structure, claim)
                    for _ in range(6):
                        thing = self.changed(chooser, case, proof, chooser.choice(strange))
                        self.assertIs(is_certificate(structure, claim, thing), case.is_right(claim, thing),
                                      (structure.entries, claim, thing))

    def changed(self, chooser, case, thing, strange):
        """Return the certificate with one member, at some depth, left out, repeated, exchanged or of another kind."""
        if type(thing) is not tuple or chooser.random() < 0.1:
            return chooser.choice([strange, list(thing) if type(thing) is tuple else [thing], *case.items,
                                   *case.equations, *case.unknowns, *sorted(case.entries)])
        if not thing or chooser.random() < 0.3:
            extra = chooser.choice([strange, *case.items, *sorted(case.entries), *case.equations, *thing])
            return chooser.choice([thing[:-1], thing[1:], thing + (extra,), thing + thing[:1], thing[::-1]])
        at = chooser.randrange(len(thing))
        return thing[:at] + (self.changed(chooser, case, thing[at], strange),) + thing[at + 1:]


class ShapesTest(unittest.TestCase):
    """The certificates of each claim, and what is not quite one."""

    def setUp(self):
        # Overdetermined a, b and x; the blocks c d and e; underdetermined f and u, v.
        self.structure = System.of(a="x", b="x", c="x y z", d="y z", e="w y", f="u v w").structure
        self.assignment = (("a", "x"), ("c", "y"), ("d", "z"), ("e", "w"), ("f", "u"))
        rows = [("equation", name) for name in "cdef"]
        self.cover = (("unknown", "x"), *rows)
        self.other = (("unknown", "x"), ("unknown", "y"), ("unknown", "z"), ("unknown", "w"), ("equation", "f"))

    def accepts(self, claim, *thing):
        return is_certificate(self.structure, claim, thing)

    def test_rank(self):
        self.assertTrue(self.accepts(("rank", 5), self.assignment, self.cover))
        self.assertFalse(self.accepts(("rank", 4), self.assignment, self.cover))
        self.assertFalse(self.accepts(("rank", 4), self.assignment[1:], self.cover[1:]))
        self.assertFalse(self.accepts(("rank", 4), self.assignment[1:], self.cover))
        self.assertFalse(self.accepts(("rank", 5), self.assignment, self.cover + (("unknown", "y"),)))
        self.assertFalse(self.accepts(("rank", 5), self.assignment, self.cover, ()))
        self.assertFalse(self.accepts(("rank", 5), self.assignment))
        self.assertFalse(self.accepts(("rank", 5), list(self.assignment), self.cover))
        self.assertFalse(self.accepts(("rank", 5), self.assignment, list(self.cover)))
        self.assertFalse(is_certificate(self.structure, ("rank", 5), [self.assignment, self.cover]))

    def test_duplicates(self):
        self.assertFalse(self.accepts(("rank", 5), self.assignment[:4] + self.assignment[:1], self.cover))
        self.assertFalse(self.accepts(("rank", 6), self.assignment + self.assignment[:1], self.cover + self.cover[:1]))
        self.assertFalse(self.accepts(("rank", 5), self.assignment, self.cover[:4] + self.cover[:1]))

    def test_entries_and_items_that_are_no_tuples(self):
        self.assertFalse(self.accepts(("rank", 5), (["a", "x"],) + self.assignment[1:], self.cover))
        self.assertFalse(self.accepts(("rank", 5), self.assignment, (["unknown", "x"],) + self.cover[1:]))
        self.assertFalse(self.accepts(("rank", 5), self.assignment, ("x",) + self.cover[1:]))
        self.assertFalse(self.accepts(("rank", 5), self.assignment, (("unknown", "x", "x"),) + self.cover[1:]))
        self.assertFalse(self.accepts(("rank", 5), (("a", "y"),) + self.assignment[1:], self.cover))

    def test_parts(self):
        a, x, f, u, e = ("equation", "a"), ("unknown", "x"), ("equation", "f"), ("unknown", "u"), ("equation", "e")
        leaving_b, leaving_v = self.assignment, self.assignment
        self.assertTrue(self.accepts(("part", ("equation", "b"), "over"), leaving_b, self.cover))
        self.assertFalse(self.accepts(("part", a, "over"), leaving_b, self.cover))
        self.assertFalse(self.accepts(("part", ("equation", "b"), "over"), leaving_b, self.cover, "x"))
        self.assertTrue(self.accepts(("part", x, "over"), leaving_b, self.cover, "b"))
        for third in ("a", "c", "d", "x", ("b",), ["b"], {}, None, ("b", "x")):
            self.assertFalse(self.accepts(("part", x, "over"), leaving_b, self.cover, third))
        self.assertFalse(self.accepts(("part", x, "over"), leaving_b, self.cover))
        self.assertTrue(self.accepts(("part", ("unknown", "v"), "under"), leaving_v, self.cover))
        self.assertFalse(self.accepts(("part", u, "under"), leaving_v, self.cover))
        self.assertTrue(self.accepts(("part", f, "under"), leaving_v, self.cover, "v"))
        for third in ("u", "w", "f", "y", ("v",), ["v"], {}, None):
            self.assertFalse(self.accepts(("part", f, "under"), leaving_v, self.cover, third))
        self.assertTrue(self.accepts(("part", e, "well"), self.assignment, self.cover, self.other))
        self.assertFalse(self.accepts(("part", e, "well"), self.assignment, self.other, self.cover))
        self.assertTrue(self.accepts(("part", ("unknown", "w"), "well"), self.assignment, self.other, self.cover))
        self.assertFalse(self.accepts(("part", f, "well"), self.assignment, self.cover, self.other))
        self.assertFalse(self.accepts(("part", e, "well"), self.assignment, self.cover, self.other[1:]))

    def test_entries(self):
        items = (("unknown", "x"), ("equation", "c"), ("equation", "d"), ("equation", "f"))
        self.assertFalse(self.accepts(("entry", "e", "w", "all"), self.assignment, items))
        items = (("unknown", "x"), ("unknown", "y"), ("unknown", "z"), ("equation", "f"))
        self.assertTrue(self.accepts(("entry", "e", "w", "all"), self.assignment, items))
        self.assertFalse(self.accepts(("entry", "e", "w", "all"), self.assignment, self.cover))
        self.assertFalse(self.accepts(("entry", "e", "w", "all"), self.assignment, items[1:]))
        self.assertFalse(self.accepts(("entry", "e", "w", "all"), self.assignment, items + items[:1]))
        self.assertFalse(self.accepts(("entry", "e", "y", "all"), self.assignment, items))
        exchanged = (("a", "x"), ("c", "z"), ("d", "y"), ("e", "w"), ("f", "u"))
        self.assertTrue(self.accepts(("entry", "c", "y", "some"), self.assignment, self.cover, exchanged))
        self.assertFalse(self.accepts(("entry", "c", "y", "some"), exchanged, self.cover, self.assignment))
        self.assertFalse(self.accepts(("entry", "c", "y", "some"), self.assignment, self.cover, exchanged[1:]))
        self.assertFalse(self.accepts(("entry", "c", "y", "some"), self.assignment, self.cover, list(exchanged)))
        self.assertFalse(self.accepts(("entry", "c", "y", "some"), self.assignment, self.cover, self.assignment))
        self.assertTrue(self.accepts(("entry", "c", "x", "none"), self.assignment, self.cover))
        self.assertFalse(self.accepts(("entry", "c", "x", "none"), self.assignment, self.other))
        self.assertFalse(self.accepts(("entry", "c", "y", "none"), self.assignment, self.cover))

    def test_needs(self):
        for chain in (("e", "c"), ("e", "c", "d", "c"), ("e", "e", "c"), ("e", "c", "c", "d", "d", "c"),
                      ("e", *["c", "d"] * 4000, "c")):
            self.assertTrue(self.accepts(("needs", "e", "c"), self.assignment, self.cover, chain), chain[:9])
        for chain in ((), ("e",), ("c",), ("e", "d", "c"), ("c", "e"), ("e", "c", "d"), ["e", "c"], "ec", None,
                      ("e", "q", "c"), ("e", None, "c"), ("e", [], "c"), ("e", {}, {}, "c"), ("e", "y", "c"),
                      (("equation", "e"), ("equation", "c")), (("e", "c"),), ("e", "a", "c"), ("e", "f", "c"),
                      ("d", "c")):
            self.assertIs(self.accepts(("needs", "e", "c"), self.assignment, self.cover, chain), False, chain)
        self.assertFalse(self.accepts(("needs", "e", "c"), self.assignment, self.cover))
        self.assertFalse(self.accepts(("needs", "c", "e"), self.assignment, self.cover, ("c", "e")))

    def test_free(self):
        cover = (("unknown", "x"), ("unknown", "y"), ("unknown", "z"), ("equation", "e"), ("equation", "f"))
        self.assertTrue(self.accepts(("free", "c", "e"), self.assignment, cover))
        self.assertFalse(self.accepts(("free", "e", "c"), self.assignment, cover))
        self.assertFalse(self.accepts(("free", "c", "e"), self.assignment, self.cover))
        self.assertFalse(self.accepts(("free", "c", "e"), self.assignment, self.other))
        self.assertFalse(self.accepts(("free", "c", "e"), self.assignment, cover, ("c",)))

    def test_empty_system(self):
        structure = System().structure
        self.assertEqual(certificate(structure, ("rank", 0)), ((), ()))
        self.assertIs(is_certificate(structure, ("rank", 0), ((), ())), True)
        for thing in ((), ((),), ((), (), ()), ([], ()), ((), []), [(), ()], (None, ()), ((), {})):
            self.assertIs(is_certificate(structure, ("rank", 0), thing), False)
            self.assertIs(is_certificate(structure, ("rank", 1), thing), False)
        with self.assertRaises(FalseClaim):
            certificate(structure, ("rank", 1))

    def test_items_without_entries(self):
        structure = made("x", e="")
        for item, part in ((("equation", "e"), "over"), (("unknown", "x"), "under")):
            self.assertEqual(certificate(structure, ("part", item, part)), ((), ()))
            self.assertIs(is_certificate(structure, ("part", item, "well"), ((), (), ())), False)


class ClaimsTest(unittest.TestCase):
    def setUp(self):
        self.structure = System.of(a="x", b="x", c="x y z", d="y z", e="w y", f="u v w").structure

    def refused(self, claim):
        kept = copy.deepcopy(claim)
        for call in (lambda: certificate(self.structure, claim), lambda: is_certificate(self.structure, claim, ())):
            with self.assertRaises(InvalidClaim):
                call()
        self.assertEqual(claim, kept)

    def claimed(self, claim):
        """Return whether the claim is true; it must be a claim."""
        self.assertIs(is_certificate(self.structure, claim, None), False)
        try:
            certificate(self.structure, claim)
        except FalseClaim:
            return False
        return True

    def test_ranks(self):
        for number in (0, 4, 6, -5, 10 ** 5000, -10 ** 5000):
            self.assertFalse(self.claimed(("rank", number)))
        self.assertTrue(self.claimed(("rank", 5)))
        for thing in (True, False, None, "5", (5,), [5], {5: 5}):
            self.refused(("rank", thing))
        self.refused(("rank",))
        self.refused(("rank", 5, 5))
        self.refused(["rank", 5])
        self.refused(("Rank", 5))
        self.assertTrue(is_certificate(System.of(e="x").structure, ("rank", 1), ((("e", "x"),), (("unknown", "x"),))))

    def test_parts(self):
        self.assertTrue(self.claimed(("part", ("equation", "a"), "over")))
        self.assertFalse(self.claimed(("part", ("equation", "a"), "under")))
        for claim in (("part", ("equation", "q"), "over"), ("part", ("unknown", "a"), "over"),
                      ("part", ("equation", "x"), "well"), ("part", ["equation", "a"], "over"), ("part", "a", "over"),
                      ("part", ("equation", "a"), "Over"), ("part", ("equation", "a"), ""), ("part", ("equation", "a")),
                      ("part", ("equation", "a"), "over", ()), ("part", ("equation", "a", "over")),
                      ("part", ("equation",), "over"), ("part", ("equation", "a"), ("over",)),
                      ("part", ("equation", "a"), ["over"]), ("part", ("item", "a"), "over"), ("part", (), "over"),
                      ("part", "equation", "a", "over"), ["part", ("equation", "a"), "over"],
                      ("over", ("equation", "a"), "part"), ("part", ("equation", "a"), 0)):
            self.refused(claim)

    def test_entries(self):
        self.assertTrue(self.claimed(("entry", "e", "w", "all")))
        self.assertFalse(self.claimed(("entry", "e", "w", "some")))
        for claim in (("entry", "e", "x", "none"), ("entry", "w", "e", "all"), ("entry", "e", "q", "none"),
                      ("entry", ("e", "w"), "all"), ("entry", "e", "w"), ("entry", "e", "w", "ALL"),
                      ("entry", "e", "w", ["all"]), ("entry", ["e"], "w", "all"), ("entry", "e", {}, "all"),
                      ["entry", "e", "w", "all"], ("Entry", "e", "w", "all"), ("part", "e", "w", "all"),
                      ("entry", "e", "w", "all", ""), ("entry", "e", "w", None)):
            self.refused(claim)

    def test_needs_and_free(self):
        self.assertTrue(self.claimed(("needs", "e", "c")))
        self.assertFalse(self.claimed(("free", "e", "c")))
        self.assertTrue(self.claimed(("free", "c", "e")))
        self.assertFalse(self.claimed(("needs", "c", "e")))
        for word in ("needs", "free"):
            for claim in ((word, "c", "c"), (word, "a", "b"), (word, "c", "a"), (word, "f", "c"), (word, "c", "f"),
                          (word, "c", "q"), (word, "c"), (word, "c", "d", "e"), (word, ("c",), "d"), (word, "y", "z"),
                          (word, ["c"], ["d"]), [word, "c", "d"], (word, ("equation", "c"), ("equation", "d")),
                          (word, {}, []), (word, "c", None)):
                self.refused(claim)

    def test_strange_claims(self):
        claims = Case(self.structure).claims()
        for thing in strange_objects() + [(("rank", 5),), (0, 5), (None,), ("rank",)]:
            self.refused(thing)
            for claim in (("part", thing, "over"), ("part", ("equation", "a"), thing), ("part", (thing, "a"), "well"),
                          ("part", ("equation", thing), "well"), ("entry", thing, "x", "all"), (thing, "c", "d"),
                          ("entry", "c", thing, "all"), ("entry", "c", "x", thing), ("needs", thing, "c"), (thing,),
                          ("free", "c", thing), (thing, thing), ("needs", thing, thing), (*claims[9], thing)):
                if claim in claims:
                    self.claimed(claim)
                else:
                    self.refused(claim)

    def test_strange_things(self):
        claims = [("rank", 5), ("part", ("equation", "b"), "over"), ("part", ("unknown", "x"), "over"),
                  ("part", ("equation", "f"), "under"), ("part", ("equation", "e"), "well"), ("entry", "e", "w", "all"),
                  ("entry", "c", "y", "some"), ("entry", "c", "x", "none"), ("needs", "e", "c"), ("free", "c", "e")]
        for claim in claims:
            proof = certificate(self.structure, claim)
            self.assertIs(is_certificate(self.structure, claim, proof), True)
            for thing in strange_objects():
                kept = copy.deepcopy(thing)
                for at in range(len(proof)):
                    changed = proof[:at] + (thing,) + proof[at + 1:]
                    self.assertIs(is_certificate(self.structure, claim, changed), changed == proof)
                    if type(proof[at]) is tuple:
                        inner = proof[at][:-1] + (thing,)
                        changed = proof[:at] + (inner,) + proof[at + 1:]
                        self.assertIs(is_certificate(self.structure, claim, changed), False)
                for whole in (thing, (thing,), (thing, thing), (thing, thing, thing), proof + (thing,)):
                    self.assertIs(is_certificate(self.structure, claim, whole), False)
                self.assertEqual(thing, kept)

    def test_invalid_claim_comes_first(self):
        for thing in (None, (), ((), ()), nested(60, "mixed")):
            with self.assertRaises(InvalidClaim):
                is_certificate(self.structure, ("rank", True), thing)
        with self.assertRaises(InvalidClaim):
            certificate(self.structure, ("needs", "c", "c"))


class LargeTest(unittest.TestCase):
    def check(self, structure):
        items = [("equation", e) for e in structure.equations] + [("unknown", u) for u in structure.unknowns]
        claims = [("rank", structure.rank)] + [("part", item, part) for item in items
                                               for part in ("over", "well", "under")]
        claims += [("entry", *entry, kind) for entry in structure.entries[::7] for kind in ("all", "some", "none")]
        well = structure.well.equations
        pairs = [(one, other) for one in well[::5] for other in well if one != other]
        claims += [(word, *pair) for word in ("needs", "free") for pair in pairs]
        true = 0
        for claim in claims:
            try:
                proof = certificate(structure, claim)
            except FalseClaim:
                continue
            true += 1
            self.assertIs(is_certificate(structure, claim, proof), True, claim)
        self.assertEqual(true, 1 + len(items) + len(structure.entries[::7]) + len(pairs))

    def test_systems_of_24(self):
        chooser = random.Random(24)
        equations, unknowns = [f"e{number:02}" for number in range(24)], [f"x{number:02}" for number in range(24)]
        start = time.monotonic()
        for density in (0.05, 0.1, 0.15, 1.1):
            self.check(Structure(equations, unknowns, [(e, u) for e in equations for u in unknowns
                                                       if chooser.random() < density]))
        chain = [(e, u) for at, e in enumerate(equations) for u in unknowns[:at + 1]]
        self.check(Structure(equations, unknowns, chain))
        self.assertLess(time.monotonic() - start, 20)


if __name__ == "__main__":
    unittest.main()
