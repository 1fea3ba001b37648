import unittest

from blockorder import parts
from blockorder.parts import Block, OverPart, Part, UnderPart, WellPart
from tests.making import full, made


def texts(part):
    return [piece.text() for piece in part.pieces()]


class InterfaceTest(unittest.TestCase):
    def test_classes(self):
        self.assertEqual(Part.__bases__, (object,))
        for kind in (OverPart, WellPart, UnderPart, Block):
            self.assertEqual(kind.__bases__, (Part,))
            self.assertEqual(kind.__module__, "blockorder.parts")

    def test_what_each_class_defines_itself(self):
        for name in ("equations", "unknowns", "surplus", "is_empty"):
            self.assertIsInstance(vars(Part)[name], property)
        for name in ("text", "pieces"):
            self.assertTrue(callable(vars(Part)[name]))
        for kind in (OverPart, WellPart, UnderPart, Block):
            self.assertTrue(callable(vars(kind)["text"]))
        for name in ("place", "needs"):
            self.assertIsInstance(vars(Block)[name], property)

    def test_kinds_of_the_parts_of_a_structure(self):
        structure = made(a="x", b="x", c="y", d="u v")
        self.assertIs(type(structure.over), OverPart)
        self.assertIs(type(structure.well), WellPart)
        self.assertIs(type(structure.under), UnderPart)
        self.assertEqual([type(block) for block in structure.blocks], [Block])


class PropertiesTest(unittest.TestCase):
    def test_names_are_ascending_tuples(self):
        part = Part(["b", "a", "a1"], ["z", "x"], [])
        self.assertEqual(part.equations, ("a", "a1", "b"))
        self.assertEqual(part.unknowns, ("x", "z"))

    def test_surplus(self):
        self.assertEqual(Part(["a", "b"], ["x"], []).surplus, 1)
        self.assertEqual(Part(["a"], ["x"], []).surplus, 0)
        self.assertEqual(Part([], ["x", "y"], []).surplus, -2)
        self.assertEqual(Part([], [], []).surplus, 0)

    def test_is_empty(self):
        self.assertIs(Part([], [], []).is_empty, True)
        self.assertIs(Part(["a"], [], []).is_empty, False)
        self.assertIs(Part([], ["x"], []).is_empty, False)
        self.assertIs(Part(["a"], ["x"], []).is_empty, False)

    def test_parts_of_a_structure(self):
        structure = made("w", a="x", b="x", c="x y", d="u v")
        found = [(part.equations, part.unknowns, part.surplus, part.is_empty)
                 for part in (structure.over, structure.well, structure.under)]
        self.assertEqual(found, [
            (("a", "b"), ("x",), 1, False),
            (("c",), ("y",), 0, False),
            (("d",), ("u", "v", "w"), -2, False),
        ])

    def test_place_and_needs(self):
        blocks = made(a="x", b="y", c="x y z", d="z w").blocks
        self.assertEqual([block.place for block in blocks], [0, 1, 2, 3])
        self.assertEqual([block.needs for block in blocks], [(), (), (0, 1), (2,)])

    def test_properties_cannot_be_assigned(self):
        part = Part(["a"], ["x"], [])
        for name in ("equations", "unknowns", "surplus", "is_empty"):
            with self.assertRaises(AttributeError):
                setattr(part, name, ())

    def test_arguments_are_copied(self):
        equations, unknowns, entries = ["b", "a"], ["x"], [("b", "x")]
        part = Part(equations, unknowns, entries)
        self.assertEqual([equations, unknowns, entries], [["b", "a"], ["x"], [("b", "x")]])
        equations.append("c")
        unknowns.append("y")
        entries.append(("a", "x"))
        self.assertEqual(texts(part), ["a | -", "b | x"])


class TextTest(unittest.TestCase):
    def test_plain_part(self):
        self.assertEqual(Part(["b", "a"], ["y", "x"], []).text(), "a b | x y")
        self.assertEqual(Part(["a"], [], []).text(), "a | -")
        self.assertEqual(Part([], ["x"], []).text(), "- | x")
        self.assertEqual(Part([], [], []).text(), "- | -")

    def test_parts_with_a_name(self):
        structure = made(a="x", b="x", c="x y", d="u v")
        self.assertEqual(structure.over.text(), "over: a b | x")
        self.assertEqual(structure.well.text(), "well: c | y")
        self.assertEqual(structure.under.text(), "under: d | u v")

    def test_empty_parts(self):
        structure = made()
        self.assertEqual(structure.over.text(), "over: - | -")
        self.assertEqual(structure.well.text(), "well: - | -")
        self.assertEqual(structure.under.text(), "under: - | -")

    def test_blocks(self):
        texts_of_blocks = [block.text() for block in made(a="y x", b="x y", c="y z").blocks]
        self.assertEqual(texts_of_blocks, ["block 0: a b | x y", "block 1: c | z"])

    def test_number_of_two_digits(self):
        equations = {f"e{number:02d}": f"x{number}" for number in range(12)}
        self.assertEqual(made(**equations).blocks[11].text(), "block 11: e11 | x11")


class PiecesTest(unittest.TestCase):
    def test_example(self):
        over = made(a="x", b="x", c="y", d="y", e="").over
        self.assertEqual(texts(over), ["a b | x", "c d | y", "e | -"])

    def test_joined_through_others(self):
        part = Part("abc", "xyz", [("a", "x"), ("b", "x"), ("b", "y"), ("c", "y")])
        self.assertEqual(texts(part), ["a b c | x y", "- | z"])

    def test_order_is_by_least_equation_then_by_unknown(self):
        part = Part("abcd", "uvwxy", [("d", "u"), ("a", "u"), ("b", "x"), ("c", "x")])
        self.assertEqual(texts(part), ["a d | u", "b c | x", "- | v", "- | w", "- | y"])

    def test_entries_with_an_end_outside_join_nothing(self):
        part = Part("ab", "yz", [("a", "x"), ("b", "x"), ("c", "y"), ("c", "z"), ("a", "y")])
        self.assertEqual(texts(part), ["a | y", "b | -", "- | z"])

    def test_parts_of_a_structure_ignore_the_entries_between_them(self):
        structure = made(a="x", b="x", c="x y", d="x z", e="y u v", f="z s t")
        self.assertEqual(texts(structure.well), ["c | y", "d | z"])
        self.assertEqual(texts(structure.under), ["e | u v", "f | s t"])

    def test_equal_names_of_both_kinds(self):
        part = Part("ab", "ab", [("a", "b"), ("b", "a")])
        self.assertEqual(texts(part), ["a | b", "b | a"])

    def test_pieces_are_plain_parts(self):
        structure = made("w", a="x", b="x", c="x y", d="u v")
        for part in (structure.over, structure.well, structure.under, structure.blocks[0]):
            pieces = list(part.pieces())
            self.assertTrue(pieces)
            for piece in pieces:
                self.assertIs(type(piece), Part)
                self.assertEqual([type(inner) for inner in piece.pieces()], [Part])
                self.assertEqual(texts(piece), [piece.text()])

    def test_block_is_one_piece(self):
        self.assertEqual(texts(made(a="x y", b="x y").blocks[0]), ["a b | x y"])

    def test_empty_part_has_no_pieces(self):
        self.assertEqual(texts(Part([], [], [("a", "x")])), [])
        self.assertEqual(texts(made().well), [])

    def test_two_calls_at_once(self):
        part = Part("abc", "xyz", [("a", "x"), ("b", "y")])
        alone = ["a | x", "b | y", "c | -", "- | z"]
        self.assertEqual([(one.text(), other.text()) for one, other in zip(part.pieces(), part.pieces())],
                         [(text, text) for text in alone])
        first = part.pieces()
        begun = [next(first).text(), next(first).text()]
        self.assertEqual(texts(part), alone)
        self.assertEqual(begun + [piece.text() for piece in first], alone)

    def test_pieces_of_a_large_part(self):
        self.assertEqual(len(list(full(24, 24).well.pieces())), 1)
        apart = made(**{f"e{number}": f"x{number}" for number in range(24)})
        self.assertEqual(len(list(apart.well.pieces())), 24)

    def test_module_defines_its_classes(self):
        for name in ("Part", "OverPart", "WellPart", "UnderPart", "Block"):
            self.assertEqual(getattr(parts, name).__module__, "blockorder.parts")


if __name__ == "__main__":
    unittest.main()
