"""The examples of the document that concern systems; each gives what the document shows."""

import unittest

from blockorder.certificates import certificate, is_certificate
from blockorder.choices import inputs, redundant_sets
from blockorder.errors import EditFailed, InvalidText, NotDetermined, NothingToUndo, SingularBlock
from blockorder.linear import LinearSystem
from blockorder.model import System


class SystemExamplesTest(unittest.TestCase):
    def test_transaction_and_attempt(self):
        system = System.of(e="x y", f="x", g=None)
        system.begin()
        system.add_unknown("z", "w")
        system.apply(("add_entry", "f", "z"), ("attempt", ("remove_unknown", "x"), ("remove_unknown", "v")))
        self.assertEqual(str(system), "unknowns w x y z\ne: x y\nf: x z")
        system.rollback()
        self.assertEqual([system.entries, system.depth], [(("e", "x"), ("e", "y"), ("f", "x")), 0])

    def test_failing_edit(self):
        system = System.of(e="x")
        with self.assertRaises(EditFailed) as caught:
            system.apply(("add_unknown", "y"), ("add_entry", "e", "x"))
        self.assertEqual(caught.exception.index, 1)

    def test_undo(self):
        system = System.read("unknowns x\ne: x")
        system.begin()
        system.add_unknown("y")
        system.add_entry("e", "y")
        system.commit()
        system.remove_equation("e")
        system.undo(count=2)
        self.assertEqual([str(system), system == System.of(e="x")], ["unknowns x\ne: x", True])
        with self.assertRaises(NothingToUndo):
            system.undo()

    def test_read(self):
        with self.assertRaises(InvalidText) as caught:
            System.read("unknowns x y\na: y\nb: y x\nc:")
        self.assertEqual(caught.exception.line, 2)


class StructureExamplesTest(unittest.TestCase):
    def test_structure(self):
        structure = System.of(a="x", b="x", c="x y z", d="y z", e="w y", f="u v w").structure
        self.assertEqual([structure.rank, structure.over.text(), structure.under.text()],
                         [5, "over: a b | x", "under: f | u v"])
        self.assertEqual([block.text() for block in structure.walk()], ["block 0: c d | y z", "block 1: e | w"])
        self.assertEqual([structure.blocks[1].needs, structure.closed_set("e"), structure.closed_set("a")],
                         [(0,), ("c", "d", "e"), None])
        over = System.of(a="x", b="x", c="y", d="y", e="").structure.over
        self.assertEqual([piece.text() for piece in over.pieces()], ["a b | x", "c d | y", "e | -"])
        kinds = [structure.entry_kind("e", "w"), structure.entry_kind("c", "y"), structure.entry_kind("c", "x"),
                 structure.entry_kind("a", "x")]
        self.assertEqual(kinds, ["all", "some", "none", "some"])


class CertificatesExamplesTest(unittest.TestCase):
    def test_certificates(self):
        structure = System.of(a="x", b="x", c="x y").structure
        self.assertIs(is_certificate(structure, ("rank", 2), certificate(structure, ("rank", 2))), True)
        self.assertIs(is_certificate(
            structure, ("part", ("equation", "a"), "over"),
            ((("b", "x"), ("c", "y")), (("unknown", "x"), ("equation", "c")))), True)
        self.assertIs(is_certificate(
            structure, ("entry", "c", "x", "none"),
            ((("b", "x"), ("c", "y")), (("unknown", "x"), ("unknown", "y")))), False)


class ChoicesExamplesTest(unittest.TestCase):
    def test_choices(self):
        structure = System.of(a="x", b="x", c="x y", d="y", e="u v").structure
        self.assertEqual(list(redundant_sets(structure)), [("a", "b"), ("a", "c", "d"), ("b", "c", "d")])
        self.assertEqual([inputs(structure), inputs(structure, "y", "v")], [("u",), ("v",)])


class LinearExamplesTest(unittest.TestCase):
    def test_steps_and_values(self):
        system = LinearSystem.read("unknowns x y z\na: 2 x = 3\nb: 1 x 2 y 1 z = 0\nc: 1 y -1 z = 1")
        self.assertEqual(list(system.steps()), [(0, {"x": (3, 2)}), (1, {"y": (-1, 6), "z": (-7, 6)})])
        system.set_coefficient("c", "z", 2)
        system.apply(("set_coefficient", "c", "y", 4), ("add_unknown", "w"))
        self.assertEqual(system.value("x"), (3, 2))
        with self.assertRaises(SingularBlock) as caught:
            system.value("y")
        self.assertEqual(caught.exception.number, 1)

    def test_solution_and_unsatisfied_equations(self):
        system = LinearSystem()
        system.add_unknown("x", "y")
        system.add_row("a", 4, {"x": 2})
        system.add_row("b", 1, {"y": 3, "x": -1})
        self.assertEqual([system.solve(), system.unsatisfied({"x": (2, 1), "y": (1, 2)})],
                         [{"x": (2, 1), "y": (1, 1)}, ("b",)])
        system.add_row("c", 1, {"x": 1})
        with self.assertRaises(NotDetermined) as caught:
            system.value("y")
        self.assertEqual(caught.exception.unknown, "y")


if __name__ == "__main__":
    unittest.main()
