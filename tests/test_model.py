"""Systems: how they are made, the editing methods with their errors, and what a system answers."""

import unittest

from blockorder import errors
from blockorder.contents import MOST
from blockorder.linear import LinearSystem
from blockorder.model import System
from blockorder.structure import Structure
from tests.making import strange_objects
from tests.mirror import outcome

NO_NAMES = ["", "X", "1", "1a", "_", "a_", "a b", " a", "a ", "a\n", "aB", "abcdefghi", "-", "a-", "\n", None, True,
            0, 1, (), [], {}, ("a",), ["a"], {"a": "a"}]
NAMES = ["a", "z", "a0", "z9", "abcdefgh", "a1234567", "unknowns", "cls", "equation"]


def numbered(letter, many):
    return [f"{letter}{number}" for number in range(many)]


class InterfaceTest(unittest.TestCase):
    def test_class_defines_what_the_interface_lists(self):
        self.assertEqual(System.__module__, "blockorder.model")
        self.assertEqual(System.__bases__, (object,))
        for name in ("of", "read"):
            self.assertIsInstance(vars(System)[name], classmethod)
        for name in ("add_unknown", "add_equation", "add_entry", "remove_entry", "remove_equation", "remove_unknown",
                     "begin", "commit", "rollback", "apply", "undo", "__eq__", "__str__"):
            self.assertTrue(callable(vars(System)[name]), name)
        for name in ("equations", "unknowns", "entries", "depth", "structure"):
            self.assertIsInstance(vars(System)[name], property)

    def test_limit(self):
        self.assertEqual((System.LIMIT, System().LIMIT, MOST), (24, 24, 24))

    def test_arguments_have_the_names_of_the_interface(self):
        system = System.read(text="unknowns")
        system.add_unknown("x", "y")
        system.add_equation(name="e")
        system.add_entry(equation="e", unknown="x")
        system.add_entry(unknown="y", equation="e")
        system.remove_entry(equation="e", unknown="y")
        system.undo(count=1)
        system.remove_unknown(name="x")
        self.assertEqual(str(system), "unknowns y\ne: y")
        system.remove_equation(name="e")
        self.assertEqual(str(system), "unknowns y")

    def test_parameters_behind_a_star_are_passed_by_name(self):
        system = System()
        system.add_unknown("x")
        with self.assertRaises(TypeError):
            system.undo(1)

    def test_methods_return_none(self):
        system = System()
        self.assertEqual([
            system.add_unknown("x", "y"), system.add_equation("e", "x"), system.add_entry("e", "y"),
            system.remove_entry("e", "x"), system.remove_unknown("y"), system.remove_equation("e"), system.begin(),
            system.rollback(), system.begin(), system.commit(), system.apply(), system.undo(), system.undo(count=3),
        ], [None] * 13)

    def test_properties_cannot_be_assigned(self):
        for name in ("equations", "unknowns", "entries", "depth", "structure"):
            with self.assertRaises(AttributeError):
                setattr(System(), name, ())


class MakingTest(unittest.TestCase):
    def test_new_system_is_empty(self):
        system = System()
        self.assertEqual((system.equations, system.unknowns, system.entries, system.depth), ((), (), (), 0))
        self.assertEqual(str(system), "unknowns")

    def test_of(self):
        system = System.of(f="y x", e="", g=None, h="x z9")
        self.assertEqual(system.equations, ("e", "f", "h"))
        self.assertEqual(system.unknowns, ("x", "y", "z9"))
        self.assertEqual(system.entries, (("f", "x"), ("f", "y"), ("h", "x"), ("h", "z9")))
        self.assertEqual(System.of(), System())
        self.assertEqual(System.of(e=None), System())

    def test_of_with_the_names_of_parameters(self):
        system = System.of(self="x", text="x", name="cls", unknowns="unknowns", equation="y")
        self.assertEqual(system.equations, ("equation", "name", "self", "text", "unknowns"))
        self.assertEqual(system.unknowns, ("cls", "unknowns", "x", "y"))

    def test_of_with_24_of_each(self):
        text = " ".join(numbered("x", 24))
        system = System.of(**{name: text for name in numbered("e", 24)})
        self.assertEqual((len(system.equations), len(system.unknowns), len(system.entries)), (24, 24, 576))

    def test_of_returns_an_object_of_the_class(self):
        self.assertIs(type(System.of(e="x")), System)
        self.assertIs(type(System.read("unknowns")), System)


class NamesTest(unittest.TestCase):
    def test_names(self):
        for name in NAMES:
            system = System()
            system.add_unknown(name)
            system.add_equation(name, name)
            self.assertEqual(system.entries, ((name, name),))

    def test_other_objects(self):
        for thing in NO_NAMES:
            system = System.of(e="x")
            with self.assertRaises(errors.InvalidName) as caught:
                system.add_unknown("y", thing)
            self.assertEqual(caught.exception.name, thing)
            self.assertEqual(type(caught.exception.name), type(thing))
            with self.assertRaises(errors.InvalidName) as caught:
                system.add_equation(thing, "x")
            self.assertEqual(caught.exception.name, thing)
            self.assertEqual(str(system), "unknowns x\ne: x")

    def test_equal_names_of_both_kinds(self):
        system = System.of(a="a b", b="b")
        system.remove_unknown("a")
        self.assertEqual(str(system), "unknowns b\na: b\nb: b")
        system.remove_equation("b")
        self.assertEqual(str(system), "unknowns b\na: b")
        system.add_unknown("unknowns")
        system.add_equation("unknowns", "unknowns")
        self.assertEqual(str(system), "unknowns b unknowns\na: b\nunknowns: unknowns")
        self.assertEqual(System.read(str(system)), system)


class AddUnknownTest(unittest.TestCase):
    def setUp(self):
        self.system = System.of(e="x y")

    def raised(self, *names):
        found = outcome(lambda: self.system.add_unknown(*names))
        self.assertEqual(self.system.unknowns, ("x", "y"))
        return found

    def test_several(self):
        self.system.add_unknown("z", "a", "e")
        self.assertEqual(self.system.unknowns, ("a", "e", "x", "y", "z"))
        self.system.add_unknown()
        self.assertEqual(self.system.unknowns, ("a", "e", "x", "y", "z"))

    def test_first_object_that_is_no_name(self):
        self.assertEqual(self.raised("z", [], None), ("InvalidName", []))
        self.assertEqual(self.raised("x", "z", "z", 3), ("InvalidName", 3))

    def test_first_name_that_exists_or_is_repeated(self):
        self.assertEqual(self.raised("z", "y", "x"), ("DuplicateItem", ("unknown", "y")))
        self.assertEqual(self.raised("z", "z", "x"), ("DuplicateItem", ("unknown", "z")))
        self.assertEqual(self.raised("a", "z", "a", "z"), ("DuplicateItem", ("unknown", "a")))

    def test_limit(self):
        self.assertEqual(self.raised(*numbered("z", 23)), ("TooLarge", 24))
        self.assertEqual(self.raised(*numbered("z", 100)), ("TooLarge", 24))
        self.assertEqual(self.raised(*numbered("z", 23), "z0"), ("DuplicateItem", ("unknown", "z0")))
        self.assertEqual(self.raised(*numbered("z", 23), "Z"), ("InvalidName", "Z"))
        self.system.add_unknown(*numbered("z", 22))
        self.assertEqual(len(self.system.unknowns), 24)
        self.assertEqual(outcome(lambda: self.system.add_unknown("w")), ("TooLarge", 24))
        self.assertEqual(outcome(lambda: self.system.add_unknown("x")), ("DuplicateItem", ("unknown", "x")))
        self.assertIsNone(outcome(lambda: self.system.add_unknown()))
        self.system.remove_unknown("z0")
        self.system.add_unknown("w")
        self.assertEqual(len(self.system.unknowns), 24)


class AddEquationTest(unittest.TestCase):
    def setUp(self):
        self.system = System.of(e="x y")

    def raised(self, *given):
        found = outcome(lambda: self.system.add_equation(*given))
        self.assertEqual(str(self.system), "unknowns x y\ne: x y")
        return found

    def test_unknowns(self):
        self.system.add_equation("f", "y", "x")
        self.system.add_equation("d")
        self.assertEqual(str(self.system), "unknowns x y\nd:\ne: x y\nf: x y")

    def test_errors_in_their_order(self):
        self.assertEqual(self.raised("E", "q", "q"), ("InvalidName", "E"))
        self.assertEqual(self.raised("e", "q", "q"), ("DuplicateItem", ("equation", "e")))
        self.assertEqual(self.raised("f", "x", "x", "q", "r"), ("UnknownItem", ("unknown", "q")))
        self.assertEqual(self.raised("f", "x", "y", "y", "x"), ("DuplicateItem", ("unknown", "y")))
        self.assertEqual(self.raised("f", "x", [{}], "x"), ("UnknownItem", ("unknown", [{}])))

    def test_limit(self):
        for name in numbered("f", 23):
            self.system.add_equation(name)
        self.assertEqual(len(self.system.equations), 24)
        self.assertEqual(outcome(lambda: self.system.add_equation("g", "q")), ("TooLarge", 24))
        self.assertEqual(outcome(lambda: self.system.add_equation("e", "q")), ("DuplicateItem", ("equation", "e")))
        self.assertEqual(outcome(lambda: self.system.add_equation("G")), ("InvalidName", "G"))
        self.assertEqual(len(self.system.equations), 24)
        self.system.remove_equation("f3")
        self.system.add_equation("g", "x")
        self.assertEqual(self.system.entries, (("e", "x"), ("e", "y"), ("g", "x")))


class EntriesTest(unittest.TestCase):
    def setUp(self):
        self.system = System.of(e="x y", f="")

    def test_add(self):
        self.system.add_entry("f", "y")
        self.assertEqual(self.system.entries, (("e", "x"), ("e", "y"), ("f", "y")))

    def test_remove(self):
        self.system.remove_entry("e", "x")
        self.assertEqual(str(self.system), "unknowns x y\ne: y\nf:")

    def test_errors_in_their_order(self):
        for call in (self.system.add_entry, self.system.remove_entry):
            self.assertEqual(outcome(lambda: call("x", "e")), ("UnknownItem", ("equation", "x")))
            self.assertEqual(outcome(lambda: call([], {})), ("UnknownItem", ("equation", [])))
            self.assertEqual(outcome(lambda: call("e", "e")), ("UnknownItem", ("unknown", "e")))
            self.assertEqual(outcome(lambda: call("e", {"x": []})), ("UnknownItem", ("unknown", {"x": []})))
        self.assertEqual(outcome(lambda: self.system.remove_entry("f", "x")), ("UnknownEntry", ("f", "x")))
        self.assertEqual(outcome(lambda: self.system.add_entry("e", "x")), ("DuplicateEntry", ("e", "x")))
        self.assertEqual(str(self.system), "unknowns x y\ne: x y\nf:")

    def test_removing_an_item_removes_its_entries(self):
        self.system.remove_unknown("x")
        self.assertEqual(str(self.system), "unknowns y\ne: y\nf:")
        self.system.remove_equation("e")
        self.assertEqual(str(self.system), "unknowns y\nf:")
        self.system.add_unknown("x")
        self.system.add_equation("e")
        self.assertEqual(self.system.entries, ())

    def test_removing_what_does_not_exist(self):
        self.assertEqual(outcome(lambda: self.system.remove_equation("x")), ("UnknownItem", ("equation", "x")))
        self.assertEqual(outcome(lambda: self.system.remove_unknown("e")), ("UnknownItem", ("unknown", "e")))
        for thing in strange_objects():
            self.assertEqual(outcome(lambda: self.system.remove_equation(thing)), ("UnknownItem", ("equation", thing)))
            self.assertEqual(outcome(lambda: self.system.remove_unknown(thing)), ("UnknownItem", ("unknown", thing)))
        self.assertEqual(str(self.system), "unknowns x y\ne: x y\nf:")


class AnswersTest(unittest.TestCase):
    def test_answers_are_ascending(self):
        system = System()
        system.add_unknown("z", "b", "a10", "a2")
        system.add_equation("f", "z", "a2", "a10")
        system.add_equation("e", "b", "a10")
        self.assertEqual(system.equations, ("e", "f"))
        self.assertEqual(system.unknowns, ("a10", "a2", "b", "z"))
        self.assertEqual(system.entries, (("e", "a10"), ("e", "b"), ("f", "a10"), ("f", "a2"), ("f", "z")))
        self.assertEqual(str(system), "unknowns a10 a2 b z\ne: a10 b\nf: a10 a2 z")

    def test_entries_are_plain_tuples(self):
        system = System.of(e="x")
        for answer in (system.equations, system.unknowns, system.entries, system.entries[0]):
            self.assertIs(type(answer), tuple)

    def test_structure_is_that_of_the_system(self):
        system = System.of(a="x", b="x", c="x y z", d="y z")
        self.assertIs(type(system.structure), Structure)
        self.assertEqual(system.structure.over.text(), "over: a b | x")
        self.assertEqual(system.structure.well.text(), "well: c d | y z")
        system.remove_equation("b")
        self.assertEqual(system.structure.over.text(), "over: - | -")
        self.assertEqual([block.text() for block in system.structure.walk()], ["block 0: a | x", "block 1: c d | y z"])

    def test_structure_stays_as_it_was(self):
        system = System.of(a="x", b="x y")
        structure = system.structure
        system.remove_equation("a")
        system.add_unknown("z")
        system.undo(count=2)
        system.remove_unknown("x")
        self.assertEqual((structure.equations, structure.unknowns), (("a", "b"), ("x", "y")))
        self.assertEqual(structure.entries, (("a", "x"), ("b", "x"), ("b", "y")))
        self.assertEqual([block.text() for block in structure.walk()], ["block 0: a | x", "block 1: b | y"])
        structure.assignment.clear()
        self.assertEqual(structure.assignment, {"a": "x", "b": "y"})


class EqualityTest(unittest.TestCase):
    def test_equal_systems(self):
        system = System.of(e="x y", f="x")
        other = System()
        other.add_unknown("y", "x")
        other.add_equation("f", "x")
        other.add_equation("e", "y", "x")
        other.begin()
        self.assertTrue(system == other and other == system)
        self.assertFalse(system != other)

    def test_other_names_and_entries(self):
        system = System.of(e="x y", f="x")
        for other in (System(), System.of(e="x", f="x y"), System.of(e="x y"), System.of(e="x y", g="x"),
                      System.read("unknowns x y z\ne: x y\nf: x"), System.of(e="x y", f="")):
            self.assertTrue(system != other and other != system)
            self.assertFalse(system == other)

    def test_other_kinds(self):
        system = System.of(e="x")
        linear = LinearSystem.of(e="x")
        things = strange_objects() + [str(system), system.structure, linear, System, object()]
        for thing in things:
            self.assertFalse(system == thing)
            self.assertFalse(thing == system)
            self.assertTrue(system != thing and thing != system)
        self.assertFalse(System() == LinearSystem() or LinearSystem() == System())
        self.assertIs(System.__eq__(system, linear), False)

    def test_things_that_are_equal_to_everything_do_not_matter(self):
        class Same:
            def __eq__(self, other):
                return True

        self.assertIs(System() == Same(), False)

    def test_no_system_knows_anything_of_another_one(self):
        one, other, empty = System.of(e="x"), System.of(e="x"), System()
        one.add_unknown("y")
        one.begin()
        one.add_entry("e", "y")
        self.assertEqual((str(other), other.depth, str(empty)), ("unknowns x\ne: x", 0, "unknowns"))
        self.assertEqual(str(System()), "unknowns")
        with self.assertRaises(errors.NothingToUndo):
            other.undo()
        other.remove_equation("e")
        self.assertEqual(str(one), "unknowns x y\ne: x y")


if __name__ == "__main__":
    unittest.main()
