import unittest

from blockorder.errors import UnknownEntry, UnknownItem
from blockorder.parts import Block
from blockorder.structure import Structure
from tests.making import made, strange_objects


def part_texts(structure):
    return [structure.over.text(), structure.well.text(), structure.under.text()]


def everything(structure):
    """Return all answers of the structure as plain values."""
    return [
        structure.equations, structure.unknowns, structure.entries, structure.rank, structure.assignment,
        structure.cover, part_texts(structure), [(block.text(), block.needs) for block in structure.walk()],
        [structure.entry_kind(*entry) for entry in structure.entries],
        [structure.block_of(("equation", name)) for name in structure.equations],
        [structure.block_of(("unknown", name)) for name in structure.unknowns],
        [structure.closed_set(name) for name in structure.equations],
    ]


class InterfaceTest(unittest.TestCase):
    def test_class_defines_what_the_interface_lists(self):
        self.assertEqual(Structure.__module__, "blockorder.structure")
        for name in ("equations", "unknowns", "entries", "rank", "assignment", "cover", "over", "well", "under",
                     "blocks"):
            self.assertIsInstance(vars(Structure)[name], property)
        for name in ("walk", "entry_kind", "block_of", "closed_set"):
            self.assertTrue(callable(vars(Structure)[name]))

    def test_names_and_entries_are_ascending_tuples(self):
        structure = Structure(["f", "e"], ["y", "x"], [["f", "x"], ("e", "y"), ("e", "x")])
        self.assertEqual(structure.equations, ("e", "f"))
        self.assertEqual(structure.unknowns, ("x", "y"))
        self.assertEqual(structure.entries, (("e", "x"), ("e", "y"), ("f", "x")))

    def test_properties_cannot_be_assigned(self):
        with self.assertRaises(AttributeError):
            made(e="x").rank = 2


class ExamplesTest(unittest.TestCase):
    def setUp(self):
        self.structure = made(a="x", b="x", c="x y z", d="y z", e="w y", f="u v w")

    def test_rank_and_parts(self):
        self.assertEqual(self.structure.rank, 5)
        self.assertEqual(part_texts(self.structure), ["over: a b | x", "well: c d e | w y z", "under: f | u v"])

    def test_blocks(self):
        self.assertEqual([block.text() for block in self.structure.walk()], ["block 0: c d | y z", "block 1: e | w"])
        self.assertEqual(self.structure.blocks[1].needs, (0,))

    def test_closed_sets(self):
        self.assertEqual(self.structure.closed_set("e"), ("c", "d", "e"))
        self.assertEqual(self.structure.closed_set("c"), ("c", "d"))
        self.assertIsNone(self.structure.closed_set("a"))
        self.assertIsNone(self.structure.closed_set("f"))

    def test_kinds_of_entries(self):
        kinds = {entry: self.structure.entry_kind(*entry) for entry in self.structure.entries}
        self.assertEqual(kinds, {
            ("a", "x"): "some", ("b", "x"): "some", ("c", "x"): "none", ("c", "y"): "some", ("c", "z"): "some",
            ("d", "y"): "some", ("d", "z"): "some", ("e", "w"): "all", ("e", "y"): "none", ("f", "u"): "some",
            ("f", "v"): "some", ("f", "w"): "none",
        })

    def test_block_of(self):
        found = [self.structure.block_of(("equation", name)) for name in "abcdef"]
        self.assertEqual(found, [None, None, 0, 0, 1, None])
        found = [self.structure.block_of(("unknown", name)) for name in "uvwxyz"]
        self.assertEqual(found, [None, None, 1, None, 0, 0])

    def test_numbers_and_names_are_plain(self):
        self.assertIs(type(self.structure.rank), int)
        self.assertIs(type(self.structure.block_of(("equation", "c"))), int)
        self.assertIs(type(self.structure.closed_set("c")), tuple)
        self.assertIs(type(self.structure.blocks), tuple)
        self.assertIs(type(self.structure.cover), tuple)


class EdgesTest(unittest.TestCase):
    def check(self, structure, rank, parts, blocks):
        self.assertEqual(structure.rank, rank)
        self.assertEqual(part_texts(structure), parts)
        self.assertEqual([block.text() for block in structure.walk()], blocks)
        self.assertEqual(len(structure.assignment), rank)
        self.assertEqual(len(structure.cover), rank)

    def test_nothing(self):
        structure = made()
        self.check(structure, 0, ["over: - | -", "well: - | -", "under: - | -"], [])
        self.assertEqual(everything(structure)[:6], [(), (), (), 0, {}, ()])
        self.assertEqual([structure.over.is_empty, structure.well.is_empty, structure.under.is_empty], [True] * 3)

    def test_no_equations(self):
        self.check(made("x", "y"), 0, ["over: - | -", "well: - | -", "under: - | x y"], [])

    def test_no_unknowns(self):
        self.check(made(a="", b=""), 0, ["over: a b | -", "well: - | -", "under: - | -"], [])

    def test_no_entries(self):
        self.check(made("a", "b", a="", b=""), 0, ["over: a b | -", "well: - | -", "under: - | a b"], [])

    def test_equation_without_unknowns(self):
        self.check(made(a="", b="x"), 1, ["over: a | -", "well: b | x", "under: - | -"], ["block 0: b | x"])

    def test_unknown_without_equations(self):
        self.check(made("u", b="x"), 1, ["over: - | -", "well: b | x", "under: - | u"], ["block 0: b | x"])

    def test_one_equation_too_many(self):
        self.check(made(a="x y", b="x y", c="x y"), 2, ["over: a b c | x y", "well: - | -", "under: - | -"], [])
        self.check(made(a="x", b="x y", c="y"), 2, ["over: a b c | x y", "well: - | -", "under: - | -"], [])

    def test_one_unknown_too_many(self):
        self.check(made(a="x y z", b="x y z"), 2, ["over: - | -", "well: - | -", "under: a b | x y z"], [])
        self.check(made(a="x y", b="y z"), 2, ["over: - | -", "well: - | -", "under: a b | x y z"], [])

    def test_too_many_and_too_few_beside_each_other(self):
        structure = made(a="x", b="x", c="x u v")
        self.check(structure, 2, ["over: a b | x", "well: - | -", "under: c | u v"], [])
        self.assertEqual(structure.entry_kind("c", "x"), "none")

    def test_equal_names_of_both_kinds(self):
        structure = made(x="y", y="x y", z="z")
        self.check(structure, 3, ["over: - | -", "well: x y z | x y z", "under: - | -"],
                   ["block 0: x | y", "block 1: y | x", "block 2: z | z"])
        self.assertEqual(structure.assignment, {"x": "y", "y": "x", "z": "z"})
        self.assertEqual([structure.block_of(("equation", "x")), structure.block_of(("unknown", "x"))], [0, 1])
        over = made(x="x", y="x", z="y z", w="u v")
        self.check(over, 3, ["over: x y | x", "well: - | -", "under: w z | u v y z"], [])
        self.assertEqual([over.block_of(("unknown", "y")), over.closed_set("y")], [None, None])

    def test_names_are_sorted_as_texts(self):
        structure = made(e10="x2", e2="x10", e="x")
        self.assertEqual(structure.equations, ("e", "e10", "e2"))
        self.assertEqual(structure.unknowns, ("x", "x10", "x2"))
        self.assertEqual(list(structure.assignment.items()), [("e", "x"), ("e10", "x2"), ("e2", "x10")])


class OrderTest(unittest.TestCase):
    def test_least_equation_of_the_blocks_that_can_be_solved_comes_next(self):
        structure = made(a="x y", b="y", c="z", d="z w")
        self.assertEqual([block.text() for block in structure.blocks],
                         ["block 0: b | y", "block 1: a | x", "block 2: c | z", "block 3: d | w"])

    def test_least_name_of_a_block_counts(self):
        structure = made(a="u v", z="u v", b="w", c="w s t", d="s t")
        self.assertEqual([block.equations for block in structure.blocks], [("a", "z"), ("b",), ("c", "d")])

    def test_needs_are_direct(self):
        structure = made(a="x", b="x y", c="y z")
        self.assertEqual([block.needs for block in structure.blocks], [(), (0,), (1,)])
        self.assertEqual(structure.closed_set("c"), ("a", "b", "c"))

    def test_unknowns_of_other_parts_are_not_needed(self):
        structure = made(a="x", b="x", c="x y")
        self.assertEqual([structure.blocks[0].text(), structure.blocks[0].needs], ["block 0: c | y", ()])

    def test_walk(self):
        structure = made(a="x", b="x y", c="y z")
        for block in structure.walk():
            self.assertIs(type(block), Block)
        self.assertEqual([block.place for block in structure.walk()], [0, 1, 2])
        self.assertEqual([block.place for block in structure.walk(reverse=False)], [0, 1, 2])
        self.assertEqual([block.place for block in structure.walk(reverse=True)], [2, 1, 0])
        with self.assertRaises(TypeError):
            structure.walk(True)

    def test_two_walks_at_once(self):
        structure = made(a="x", b="x y", c="y z")
        pairs = zip(structure.walk(), structure.walk(reverse=True))
        self.assertEqual([(one.place, other.place) for one, other in pairs], [(0, 2), (1, 1), (2, 0)])


class SameResultTest(unittest.TestCase):
    def test_same_result_each_time(self):
        structure = made("q", a="x y", b="x y", c="y z", d="u v", e="z", f="z")
        self.assertEqual(everything(structure), everything(structure))

    def test_returned_dicts_are_new(self):
        structure = made(a="x", b="y")
        before = everything(structure)
        structure.assignment.clear()
        structure.assignment["a"] = "y"
        self.assertEqual(everything(structure), before)

    def test_arguments_are_copied_and_not_changed(self):
        equations, unknowns, entries = ["b", "a"], ["y", "x"], [["b", "y"], ["a", "x"]]
        structure = Structure(equations, unknowns, entries)
        self.assertEqual([equations, unknowns, entries], [["b", "a"], ["y", "x"], [["b", "y"], ["a", "x"]]])
        before = everything(structure)
        equations.clear()
        unknowns.append("z")
        entries[0][1] = "x"
        entries.append(["a", "y"])
        self.assertEqual(everything(structure), before)

    def test_order_of_the_arguments_does_not_matter(self):
        names = [["a", "b", "c"], ["x", "y", "z"]]
        entries = [("a", "x"), ("a", "y"), ("b", "y"), ("b", "z"), ("c", "x"), ("c", "y")]
        turned = Structure(names[0][::-1], names[1][::-1], entries[::-1])
        self.assertEqual(everything(turned), everything(Structure(names[0], names[1], entries)))


class WrongInputsTest(unittest.TestCase):
    def setUp(self):
        self.structure = made(e="x", f="x y", g="y")
        self.before = everything(self.structure)

    def tearDown(self):
        self.assertEqual(everything(self.structure), self.before)

    def test_no_items(self):
        for thing in strange_objects():
            with self.assertRaises(UnknownItem) as caught:
                self.structure.block_of(thing)
            self.assertEqual(repr_of(caught.exception.item), repr_of(thing))

    def test_no_equations(self):
        for thing in strange_objects() + ["x", "y"]:
            with self.assertRaises(UnknownItem) as caught:
                self.structure.closed_set(thing)
            self.assertIs(type(caught.exception.item), tuple)
            self.assertEqual(repr_of(caught.exception.item), repr_of(("equation", thing)))

    def test_no_entries(self):
        things = strange_objects() + ["x", "y", "f", "g"]
        pairs = [(thing, "x") for thing in things if thing not in ("e", "f")] + [("e", thing) for thing in things
                                                                                 if thing != "x"]
        for pair in pairs + [(thing, thing) for thing in things] + [("e", "y"), ("g", "x"), ("x", "e")]:
            with self.assertRaises(UnknownEntry) as caught:
                self.structure.entry_kind(*pair)
            self.assertIs(type(caught.exception.entry), tuple)
            self.assertEqual(repr_of(caught.exception.entry), repr_of(pair))

    def test_objects_are_copied_into_the_error(self):
        thing = ["equation", {"e": ["x"]}]
        calls = [lambda: self.structure.block_of(thing), lambda: self.structure.closed_set(thing),
                 lambda: self.structure.entry_kind("e", thing)]
        fields = ["item", "item", "entry"]
        expected = [["equation", {"e": ["x"]}], ("equation", ["equation", {"e": ["x"]}]),
                    ("e", ["equation", {"e": ["x"]}])]
        caught = []
        for call in calls:
            try:
                call()
            except (UnknownItem, UnknownEntry) as error:
                caught.append(error)
        thing[1]["e"].append("y")
        thing.append(None)
        self.assertEqual([getattr(error, field) for error, field in zip(caught, fields)], expected)

    def test_items_of_an_empty_system(self):
        structure = made()
        with self.assertRaises(UnknownItem):
            structure.block_of(("equation", "e"))
        with self.assertRaises(UnknownItem):
            structure.closed_set("e")
        with self.assertRaises(UnknownEntry):
            structure.entry_kind("e", "x")

    def test_a_name_counts_for_its_own_kind_only(self):
        structure = made(a="b", b="b a")
        self.assertEqual([structure.entry_kind("b", "a"), structure.entry_kind("a", "b")], ["all", "all"])
        with self.assertRaises(UnknownEntry) as caught:
            structure.entry_kind("a", "a")
        self.assertEqual(caught.exception.entry, ("a", "a"))


def repr_of(thing):
    """Return a text that also tells True from 1, and that exists for integers of any length."""
    if isinstance(thing, (tuple, list)):
        return type(thing).__name__ + "(" + ",".join([repr_of(inner) for inner in thing]) + ")"
    return hex(thing) if type(thing) is int else repr(thing)


if __name__ == "__main__":
    unittest.main()
