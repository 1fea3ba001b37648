"""Linear systems: their editing methods with the errors, their numbers, and what they share with other systems."""

import copy
import unittest

from blockorder.errors import EditFailed, NothingToUndo
from blockorder.linear import LinearSystem
from blockorder.model import System
from tests.making import nested, strange_objects
from tests.mirror import outcome

BOUND = 10 ** 9
NO_CONSTANTS = [BOUND + 1, -BOUND - 1, 10 ** 5000, -10 ** 5000, True, False, None, "", "1", (), (1,), [1], [],
                {}, {1: 1}, nested(60, "mixed"), nested(60, "list")]
NO_COEFFICIENTS = [0] + NO_CONSTANTS


class InterfaceTest(unittest.TestCase):
    def test_class_defines_what_the_interface_lists(self):
        self.assertEqual(LinearSystem.__module__, "blockorder.linear")
        self.assertEqual(LinearSystem.__bases__, (System,))
        for name in ("of", "read"):
            self.assertIsInstance(vars(LinearSystem)[name], classmethod)
        for name in ("add_row", "set_coefficient", "set_constant", "coefficient", "constant", "steps", "solve", "value",
                     "unsatisfied"):
            self.assertTrue(callable(vars(LinearSystem)[name]), name)
        self.assertEqual((LinearSystem.LIMIT, LinearSystem().LIMIT), (24, 24))

    def test_other_systems_have_no_numbers(self):
        for name in ("add_row", "set_coefficient", "set_constant", "coefficient", "constant", "steps", "solve", "value",
                     "unsatisfied"):
            self.assertFalse(hasattr(System, name), name)

    def test_arguments_have_the_names_of_the_interface(self):
        system = LinearSystem.read(text="unknowns x")
        system.add_row(name="e", constant=2, coefficients={"x": 3})
        system.set_coefficient(equation="e", unknown="x", number=4)
        system.set_constant(equation="e", number=8)
        self.assertEqual(system.coefficient(equation="e", unknown="x"), 4)
        self.assertEqual(system.constant(equation="e"), 8)
        self.assertEqual(system.value(unknown="x"), (2, 1))
        self.assertEqual(system.unsatisfied(values={"x": (2, 1)}), ())

    def test_methods_return_none(self):
        system = LinearSystem()
        self.assertEqual([system.add_unknown("x"), system.add_row("e", 1, {"x": 2}), system.set_constant("e", 3),
                          system.set_coefficient("e", "x", 4), system.undo()], [None] * 5)

    def test_of(self):
        system = LinearSystem.of(e="y x", f="", g=None)
        self.assertIs(type(system), LinearSystem)
        self.assertEqual(str(system), "unknowns x y\ne: 1 x 1 y = 0\nf: = 0")
        self.assertEqual(str(LinearSystem.of()), "unknowns")
        self.assertEqual(str(LinearSystem()), "unknowns")


class NumbersTest(unittest.TestCase):
    def setUp(self):
        self.text = "unknowns x y\ne: 2 x -3 y = 5\nf: = 0"
        self.system = LinearSystem.read(self.text)

    def raised(self, call):
        found = outcome(call)
        self.assertEqual(str(self.system), self.text)
        self.assertIsNone(outcome(self.system.begin))
        self.system.rollback()
        return found

    def test_without_numbers(self):
        self.system.add_equation("g", "y", "x")
        self.system.add_entry("f", "x")
        self.assertEqual(str(self.system), "unknowns x y\ne: 2 x -3 y = 5\nf: 1 x = 0\ng: 1 x 1 y = 0")

    def test_numbers_are_read(self):
        self.assertEqual([self.system.coefficient("e", "x"), self.system.coefficient("e", "y")], [2, -3])
        self.assertEqual([self.system.constant("e"), self.system.constant("f")], [5, 0])

    def test_what_is_added_again_has_no_numbers_from_before(self):
        self.system.remove_entry("e", "x")
        self.system.add_entry("e", "x")
        self.assertEqual(self.system.coefficient("e", "x"), 1)
        self.system.remove_unknown("y")
        self.system.add_unknown("y")
        self.system.add_entry("e", "y")
        self.assertEqual(str(self.system), "unknowns x y\ne: 1 x 1 y = 5\nf: = 0")
        self.system.remove_equation("e")
        self.system.add_equation("e", "x")
        self.assertEqual(str(self.system), "unknowns x y\ne: 1 x = 0\nf: = 0")

    def test_set_numbers(self):
        for number in (1, -1, BOUND, -BOUND):
            self.system.set_coefficient("e", "y", number)
            self.system.set_constant("f", number)
            self.assertEqual(str(self.system), f"unknowns x y\ne: 2 x {number} y = 5\nf: = {number}")
        self.system.set_constant("f", 0)
        self.assertEqual(self.system.constant("f"), 0)

    def test_what_is_no_number(self):
        for thing in NO_COEFFICIENTS:
            self.assertEqual(self.raised(lambda: self.system.set_coefficient("e", "x", thing)),
                             ("InvalidNumber", thing))
            self.assertEqual(self.raised(lambda: self.system.add_row("g", 0, {"x": 1, "y": thing})),
                             ("InvalidNumber", thing))
        for thing in NO_CONSTANTS:
            self.assertEqual(self.raised(lambda: self.system.set_constant("e", thing)), ("InvalidNumber", thing))
            self.assertEqual(self.raised(lambda: self.system.add_row("g", thing, {})), ("InvalidNumber", thing))
        for thing in (True, False):
            self.assertIs(self.raised(lambda: self.system.set_constant("e", thing))[1], thing)

    def test_errors_in_their_order(self):
        for call, last in ((lambda e, u: self.system.set_coefficient(e, u, None), None),
                           (lambda e, u: self.system.coefficient(e, u), 0)):
            self.assertEqual(self.raised(lambda: call("q", "q")), ("UnknownItem", ("equation", "q")))
            self.assertEqual(self.raised(lambda: call("x", "e")), ("UnknownItem", ("equation", "x")))
            self.assertEqual(self.raised(lambda: call("e", "q")), ("UnknownItem", ("unknown", "q")))
            self.assertEqual(self.raised(lambda: call("f", "x")), ("UnknownEntry", ("f", "x")))
            for thing in strange_objects():
                self.assertEqual(self.raised(lambda: call(thing, thing)), ("UnknownItem", ("equation", thing)))
                self.assertEqual(self.raised(lambda: call("e", thing)), ("UnknownItem", ("unknown", thing)))
            if last is None:
                self.assertEqual(self.raised(lambda: call("e", "x")), ("InvalidNumber", None))
        for thing in strange_objects() + ["x"]:
            self.assertEqual(self.raised(lambda: self.system.constant(thing)), ("UnknownItem", ("equation", thing)))
            self.assertEqual(self.raised(lambda: self.system.set_constant(thing, None)),
                             ("UnknownItem", ("equation", thing)))


class AddRowTest(unittest.TestCase):
    def setUp(self):
        self.text = "unknowns x y z\ne: 2 x = 5"
        self.system = LinearSystem.read(self.text)

    def raised(self, *given):
        kept = copy.deepcopy(given)
        found = outcome(lambda: self.system.add_row(*given))
        self.assertEqual((str(self.system), given), (self.text, kept))
        return found

    def test_rows(self):
        self.system.add_row("g", -7, {"z": 3, "x": -1})
        self.system.add_row("f", 0, {})
        self.system.add_row("d", BOUND, {"y": -BOUND})
        self.assertEqual(str(self.system), "unknowns x y z\nd: -1000000000 y = 1000000000\ne: 2 x = 5\nf: = 0\n"
                                           "g: -1 x 3 z = -7")

    def test_constant_comes_first(self):
        self.assertEqual(self.raised("E", None, {"q": None}), ("InvalidNumber", None))
        self.assertEqual(self.raised("e", BOUND + 1, {"x": 0}), ("InvalidNumber", BOUND + 1))

    def test_first_coefficient_in_the_order_of_the_dict(self):
        self.assertEqual(self.raised("E", 0, {"y": 1, "z": 0, "x": True}), ("InvalidNumber", 0))
        self.assertEqual(self.raised("E", 0, {"y": 1, "x": [], "z": 0}), ("InvalidNumber", []))
        self.assertEqual(self.raised("e", 0, {"q": {}}), ("InvalidNumber", {}))

    def test_errors_of_add_equation(self):
        self.assertEqual(self.raised("E", 0, {"q": 1}), ("InvalidName", "E"))
        self.assertEqual(self.raised(["g"], 0, {"q": 1}), ("InvalidName", ["g"]))
        self.assertEqual(self.raised("e", 0, {"q": 1}), ("DuplicateItem", ("equation", "e")))
        self.assertEqual(self.raised("g", 0, {"x": 1, "r": 1, "q": 1}), ("UnknownItem", ("unknown", "r")))

    def test_keys_may_be_any_objects(self):
        deep = nested(60, "tuple")
        for key in (None, True, 0, 5, -10 ** 5000, "", "e", "X", (), ("x",), ("unknown", "x"), deep, (deep, None)):
            self.assertEqual(self.raised("g", 0, {"x": 1, key: 1, "q": 2}), ("UnknownItem", ("unknown", key)))
            self.assertEqual(self.raised("g", 0, {key: 0}), ("InvalidNumber", 0))

    def test_limit(self):
        for number in range(23):
            self.system.add_row(f"f{number}", number, {"x": 1})
        self.assertEqual(outcome(lambda: self.system.add_row("g", 0, {"q": 1})), ("TooLarge", 24))
        self.assertEqual(outcome(lambda: self.system.add_row("e", 0, {"q": 1})), ("DuplicateItem", ("equation", "e")))
        self.assertEqual(outcome(lambda: self.system.add_row("g", 0, {"q": 0})), ("InvalidNumber", 0))
        self.assertEqual(len(self.system.equations), 24)

    def test_what_is_stored_is_copied(self):
        coefficients = {"x": 1, "y": 2}
        self.system.add_row("g", 3, coefficients)
        coefficients["x"] = 9
        coefficients["z"] = 4
        self.system.add_entry("g", "z")
        self.assertEqual(str(self.system), self.text + "\ng: 1 x 2 y 1 z = 3")
        self.assertEqual(coefficients, {"x": 9, "y": 2, "z": 4})
        self.system.apply(("add_row", "h", 3, coefficients))
        coefficients.clear()
        self.assertEqual(self.system.coefficient("h", "x"), 9)


class ChangesTest(unittest.TestCase):
    def setUp(self):
        self.text = "unknowns x y\ne: 2 x -3 y = 5\nf: = 0"
        self.system = LinearSystem.read(self.text)

    def test_edits(self):
        self.system.apply(
            ("add_row", "g", 4, {"y": 7, "x": -8}), ("set_coefficient", "e", "x", 6), ("set_constant", "f", -9),
            ("add_entry", "f", "y"), ("add_unknown", "z"), ("add_equation", "h", "z"), ("remove_entry", "g", "x"),
        )
        self.assertEqual(str(self.system), "unknowns x y z\ne: 6 x -3 y = 5\nf: 1 y = -9\ng: 7 y = 4\nh: 1 z = 0")
        self.system.undo()
        self.assertEqual(str(self.system), self.text)

    def test_edits_that_fail(self):
        edits = [("add_row",), ("add_row", "g"), ("add_row", "g", 1), ("add_row", "g", 1, {}, {}),
                 ("set_coefficient", "e", "x"), ("set_coefficient", "e", "x", 1, 1), ("set_constant", "e"),
                 ("set_constant",), ("set_constant", "e", 1, 1), ("set_constant", "e", True), ("set_constant", "x", 1),
                 ("set_coefficient", "e", "x", 0), ("add_row", "g", 1, {"x": 0}), ("add_row", "g", 1, {"q": 1}),
                 ("add_row", "e", 1, {}), ("coefficient", "e", "x"), ("constant", "e"), ("solve",), ("value", "x")]
        edits += [("add_row", "g", 1, thing) for thing in strange_objects() if type(thing) is not dict]
        edits += [("add_row", "g", 1, ("x",)), ("add_row", "g", 1, [("x", 1)]), ("add_row", "g", 1, "")]
        for edit in edits:
            with self.assertRaises(EditFailed) as caught:
                self.system.apply(("set_constant", "e", 6), edit, edit)
            self.assertEqual(caught.exception.index, 1)
            self.assertEqual(str(self.system), self.text)
            self.system.apply(("attempt", ("set_constant", "e", 6), edit), ("attempt", edit))
            self.assertEqual(str(self.system), self.text)
        self.system.undo(count=len(edits))
        self.assertEqual(outcome(self.system.undo), ("NothingToUndo",))

    def test_transactions_restore_the_numbers(self):
        self.system.begin()
        self.system.set_constant("e", 6)
        self.system.begin()
        self.system.set_coefficient("e", "x", 7)
        self.system.rollback()
        self.assertEqual(str(self.system), "unknowns x y\ne: 2 x -3 y = 6\nf: = 0")
        self.system.begin()
        self.system.remove_entry("e", "y")
        self.system.add_entry("e", "y")
        self.system.commit()
        self.assertEqual(str(self.system), "unknowns x y\ne: 2 x 1 y = 6\nf: = 0")
        self.system.rollback()
        self.assertEqual(str(self.system), self.text)

    def test_undo_restores_the_numbers(self):
        self.system.remove_unknown("x")
        self.system.remove_equation("e")
        self.system.undo(count=2)
        self.assertEqual(str(self.system), self.text)
        self.system.set_coefficient("e", "x", 2)
        self.system.set_constant("e", 5)
        self.system.undo()
        self.system.undo()
        with self.assertRaises(NothingToUndo):
            self.system.undo()
        for number in range(1, 301):
            self.system.set_coefficient("e", "x", number)
        self.assertEqual(self.system.coefficient("e", "x"), 300)
        self.system.undo(count=200)
        self.assertEqual(self.system.coefficient("e", "x"), 100)
        self.system.undo(count=100)
        self.assertEqual(str(self.system), self.text)

    def test_structure_follows_the_entries_alone(self):
        structure = self.system.structure
        self.system.set_coefficient("e", "x", 9)
        self.assertEqual(structure.entries, self.system.structure.entries)
        self.assertEqual(structure.over.text(), "over: f | -")
        self.assertEqual(structure.under.text(), "under: e | x y")


class EqualityTest(unittest.TestCase):
    def test_numbers_count(self):
        text = "unknowns x y\ne: 2 x -3 y = 5\nf: = 0"
        system = LinearSystem.read(text)
        self.assertTrue(system == LinearSystem.read(text))
        for other in (text.replace("2", "3"), text.replace("-3", "3"), text.replace("5", "6"), text.replace("0", "1"),
                      text.replace(" y\n", " y z\n"), text.replace("f", "g"), text.replace("-3 y ", "")):
            self.assertTrue(system != LinearSystem.read(other) and LinearSystem.read(other) != system)
            self.assertFalse(system == LinearSystem.read(other))
        system.set_coefficient("e", "x", 4)
        self.assertFalse(system == LinearSystem.read(text))
        system.set_coefficient("e", "x", 2)
        self.assertTrue(system == LinearSystem.read(text))

    def test_other_kinds(self):
        system = LinearSystem.of(e="x")
        for thing in strange_objects() + [System.of(e="x"), str(system), LinearSystem, object()]:
            self.assertFalse(system == thing or thing == system)
            self.assertTrue(system != thing and thing != system)
        self.assertIs(LinearSystem.__eq__(system, System.of(e="x")), False)
        self.assertIs(System.__eq__(System.of(e="x"), system), False)

    def test_no_system_knows_anything_of_another_one(self):
        one, other = LinearSystem.of(e="x"), LinearSystem.of(e="x")
        one.set_constant("e", 3)
        one.set_coefficient("e", "x", 2)
        self.assertEqual((other.constant("e"), other.coefficient("e", "x")), (0, 1))


if __name__ == "__main__":
    unittest.main()
