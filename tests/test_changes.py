"""Transactions, apply with its attempts, and undo."""

import copy
import unittest

from blockorder.errors import EditFailed, NothingToUndo, NoTransaction, OpenTransaction
from blockorder.linear import LinearSystem
from blockorder.model import System
from tests.making import nested, strange_objects
from tests.mirror import outcome


def attempts(depth, *edits):
    """Return an attempt that holds the edits inside so many attempts in all."""
    for _ in range(depth):
        edits = (("attempt", *edits),)
    return edits[0]


class TransactionsTest(unittest.TestCase):
    def setUp(self):
        self.system = System.of(e="x")

    def test_none_is_open(self):
        for call in (self.system.commit, self.system.rollback):
            with self.assertRaises(NoTransaction):
                call()
        self.system.begin()
        self.system.commit()
        for call in (self.system.commit, self.system.rollback):
            with self.assertRaises(NoTransaction):
                call()
        self.assertEqual((str(self.system), self.system.depth), ("unknowns x\ne: x", 0))

    def test_commit_keeps_the_changes(self):
        self.system.begin()
        self.system.add_unknown("y")
        self.system.commit()
        self.assertEqual((self.system.unknowns, self.system.depth), (("x", "y"), 0))

    def test_rollback_restores_the_beginning(self):
        self.system.begin()
        self.system.add_unknown("y")
        self.system.remove_equation("e")
        self.system.rollback()
        self.assertEqual((str(self.system), self.system.depth), ("unknowns x\ne: x", 0))

    def test_rollback_takes_back_what_was_committed_inside(self):
        self.system.begin()
        self.system.add_unknown("y")
        self.system.begin()
        self.system.remove_unknown("x")
        self.system.begin()
        self.system.add_unknown("z")
        self.system.commit()
        self.system.commit()
        self.assertEqual((str(self.system), self.system.depth), ("unknowns y z\ne:", 1))
        self.system.rollback()
        self.assertEqual((str(self.system), self.system.depth), ("unknowns x\ne: x", 0))

    def test_rollback_closes_the_innermost_only(self):
        self.system.begin()
        self.system.add_unknown("y")
        self.system.begin()
        self.system.add_unknown("z")
        self.system.rollback()
        self.assertEqual((self.system.unknowns, self.system.depth), (("x", "y"), 1))
        self.system.commit()
        self.assertEqual(self.system.unknowns, ("x", "y"))

    def test_a_call_that_raises_leaves_the_transaction_open(self):
        self.system.begin()
        self.system.add_unknown("y")
        self.assertEqual(outcome(lambda: self.system.add_unknown("z", "y")), ("DuplicateItem", ("unknown", "y")))
        self.assertEqual(outcome(lambda: self.system.apply(("add_unknown", "z"), ())), ("EditFailed", 1))
        self.assertEqual((self.system.unknowns, self.system.depth), (("x", "y"), 1))
        self.system.rollback()
        self.assertEqual(self.system.unknowns, ("x",))

    def test_forty_inside_each_other(self):
        seen = []
        for number in range(40):
            self.system.begin()
            seen.append(str(self.system))
            self.system.apply(("attempt", ("remove_entry", "e", "x"), ("add_equation", f"f{number}")),
                              ("attempt", ("add_unknown", f"y{number}"), ("add_entry", "e", f"y{number}")))
        self.assertEqual(self.system.depth, 40)
        for number in range(20):
            self.system.commit()
        for number in reversed(range(20)):
            self.system.rollback()
            self.assertEqual((str(self.system), self.system.depth), (seen[number], number))
        self.assertEqual(outcome(lambda: self.system.undo()), ("NothingToUndo",))


class ApplyTest(unittest.TestCase):
    def setUp(self):
        self.system = System.of(e="x y", f="x")

    def fails(self, index, *edits):
        before, kept = str(self.system), copy.deepcopy(edits)
        with self.assertRaises(EditFailed) as caught:
            self.system.apply(*edits)
        self.assertEqual(caught.exception.index, index)
        self.assertEqual((str(self.system), edits), (before, kept))

    def test_every_editing_method(self):
        self.system.apply(
            ("add_unknown", "z", "w"), ("add_equation", "g", "z"), ("add_entry", "g", "w"), ("remove_entry", "e", "y"),
            ("remove_equation", "f"), ("remove_unknown", "y"),
        )
        self.assertEqual(str(self.system), "unknowns w x z\ne: x\ng: w z")

    def test_edits_that_do_nothing(self):
        before = str(self.system)
        self.system.apply()
        self.system.apply(("add_unknown",), ("attempt",))
        self.system.apply(("attempt", ("attempt",), ("add_unknown",)))
        self.assertEqual(str(self.system), before)

    def test_later_edits_see_the_earlier_ones(self):
        self.system.apply(("add_unknown", "z"), ("add_entry", "f", "z"), ("remove_unknown", "z"), ("add_unknown", "z"))
        self.assertEqual(str(self.system), "unknowns x y z\ne: x y\nf: x")

    def test_all_or_none(self):
        self.fails(2, ("add_unknown", "z"), ("remove_equation", "e"), ("add_entry", "e", "z"), ("add_unknown", "z"))
        self.fails(1, ("remove_unknown", "x"), ("remove_entry", "e", "x"))
        self.fails(0, ("add_unknown", "z", "x"))

    def test_index_is_that_of_the_first_edit_that_fails(self):
        self.fails(1, ("attempt", ("add_unknown", "x")), ("add_unknown", "x"), None)
        self.fails(0, None, ("add_unknown", "x"))
        self.fails(3, ("add_unknown",), ("attempt", None), ("attempt", ("add_unknown", "z")), ("add_unknown", "z"))

    def test_other_numbers_of_arguments(self):
        for edit in (("add_equation",), ("add_entry",), ("add_entry", "f"), ("add_entry", "f", "y", "y"),
                     ("remove_entry", "e"), ("remove_entry", "e", "x", "x"), ("remove_entry",), ("remove_equation",),
                     ("remove_equation", "e", "f"), ("remove_unknown",), ("remove_unknown", "x", "y")):
            self.fails(0, edit)
            self.fails(1, ("attempt", ("add_unknown", "z"), edit), edit)

    def test_what_is_no_edit(self):
        names = ["begin", "commit", "rollback", "apply", "undo", "of", "read", "depth", "structure", "__init__",
                 "_take", "", "add_row", "set_constant", "set_coefficient", "Attempt", "attempt ", "solve"]
        wrong = [(name, *rest) for name in names for rest in ((), ("e",), ("e", "x"), (("add_unknown", "z"),))]
        wrong += [["add_unknown", "z"], "add_unknown", {"add_unknown": "z"}, (("add_unknown", "z"),), ((),), (None,),
                  [("add_unknown", "z")], (["add_unknown"], "z"), ({}, "z"), (0,), (True, "z")]
        wrong += [("add_row", "g", 0, {}), ("set_constant", "e", 1), ("set_coefficient", "e", "x", 1)]
        for thing in wrong + strange_objects():
            self.fails(0, thing)
            self.fails(1, ("add_unknown", "z"), thing)
            before = str(self.system)
            self.system.apply(("attempt", thing), ("attempt", ("remove_equation", "e"), thing))
            self.assertEqual(str(self.system), before)

    def test_strange_arguments(self):
        for thing in strange_objects():
            self.fails(0, ("add_equation", "new", thing))
            self.fails(0, ("add_equation", "new", "x", thing))
            self.fails(0, ("remove_entry", thing, thing))
            self.fails(1, ("attempt", ("add_unknown", thing, thing)), ("remove_unknown", thing))

    def test_attempts(self):
        self.system.apply(
            ("attempt", ("add_unknown", "v"), ("add_entry", "f", "v")),
            ("attempt", ("add_unknown", "w"), ("add_entry", "f", "q"), ("add_entry", "f", "w")),
            ("attempt", ("remove_equation", "e"), "nothing"),
        )
        self.assertEqual(str(self.system), "unknowns v x y\ne: x y\nf: v x")

    def test_attempts_inside_attempts(self):
        self.system.apply(("attempt", ("add_unknown", "u"), ("attempt", ("add_unknown", "v"), ("add_unknown", "u")),
                           ("attempt", ("add_unknown", "w")), ("attempt",)))
        self.assertEqual(self.system.unknowns, ("u", "w", "x", "y"))
        self.system.apply(("attempt", ("attempt", ("add_unknown", "z")), ("add_unknown", "z")))
        self.assertEqual(self.system.unknowns, ("u", "w", "x", "y"))

    def test_five_attempts_inside_each_other(self):
        for depth in range(1, 6):
            self.system.apply(attempts(depth, ("add_unknown", f"z{depth}")))
        self.assertEqual(self.system.unknowns, ("x", "y", "z1", "z2", "z3", "z4", "z5"))

    def test_a_sixth_attempt_fails(self):
        for depth in (6, 7, 70):
            self.system.apply(attempts(depth, ("add_unknown", "z")))
            self.assertEqual(self.system.unknowns, ("x", "y"))

    def test_an_empty_sixth_attempt_fails_too(self):
        self.system.apply(attempts(4, ("add_unknown", "v"), ("attempt", ("add_unknown", "w"), ("attempt",))))
        self.assertEqual(self.system.unknowns, ("v", "x", "y"))
        self.system.apply(attempts(4, ("add_unknown", "w"), ("attempt", ("add_unknown", "z"))))
        self.assertEqual(self.system.unknowns, ("v", "w", "x", "y", "z"))
        self.system.apply(attempts(5, ("remove_unknown", "v"), ("attempt",)))
        self.assertEqual(self.system.unknowns, ("v", "w", "x", "y", "z"))

    def test_many_attempts_side_by_side_are_not_inside_each_other(self):
        self.system.apply(*[attempts(5, ("add_unknown", f"z{number}")) for number in range(20)])
        self.assertEqual(len(self.system.unknowns), 22)

    def test_deep_objects_in_an_attempt(self):
        for kind in ("tuple", "list", "dict", "mixed"):
            self.system.apply(("attempt", ("remove_equation", "e"), nested(70, kind)))
            self.fails(0, ("remove_equation", nested(70, kind)))
        self.assertEqual(self.system.equations, ("e", "f"))

    def test_limits_in_attempts(self):
        names = [f"z{number}" for number in range(22)]
        self.system.apply(("attempt", ("add_unknown", *names, "w")), ("attempt", ("add_unknown", *names)))
        self.assertEqual(len(self.system.unknowns), 24)

    def test_apply_in_a_transaction(self):
        self.system.begin()
        self.system.apply(("add_unknown", "z"))
        self.fails(1, ("add_unknown", "w"), ("add_unknown", "z"))
        self.assertEqual(self.system.depth, 1)
        self.system.rollback()
        self.assertEqual(self.system.unknowns, ("x", "y"))


class UndoTest(unittest.TestCase):
    def test_new_systems_have_no_changes(self):
        for system in (System(), System.of(), System.of(e="x"), System.read("unknowns x\ne: x"),
                       LinearSystem.of(e="x"), LinearSystem.read("unknowns x\ne: 2 x = 3")):
            before = str(system)
            for count in (1, 2, 10 ** 20):
                with self.assertRaises(NothingToUndo):
                    system.undo(count=count)
            self.assertEqual(str(system), before)

    def test_each_editing_method_is_a_change(self):
        system = LinearSystem.of(e="x y", f="x")
        seen = []
        for word, *given in (("add_unknown", "z", "w"), ("add_unknown",), ("add_equation", "g", "z"),
                             ("add_entry", "f", "z"), ("remove_entry", "e", "y"), ("remove_equation", "f"),
                             ("remove_unknown", "x"), ("apply",), ("apply", ("add_unknown", "x")),
                             ("add_row", "h", 3, {"z": 2}), ("set_coefficient", "h", "z", 5), ("set_constant", "h", 7),
                             ("set_constant", "h", 7), ("apply", ("attempt", None))):
            seen.append(str(system))
            getattr(system, word)(*given)
        for before in reversed(seen):
            system.undo()
            self.assertEqual(str(system), before)
        with self.assertRaises(NothingToUndo):
            system.undo()

    def test_calls_that_raise_are_no_changes(self):
        system = System.of(e="x")
        for call in (lambda: system.add_unknown("x"), lambda: system.apply(None), lambda: system.remove_equation("f"),
                     lambda: system.add_equation("f", "y"), system.commit, system.rollback, system.undo):
            self.assertIsNotNone(outcome(call))
        with self.assertRaises(NothingToUndo):
            system.undo()

    def test_a_transaction_is_one_change(self):
        system = System.of(e="x")
        system.add_unknown("a")
        system.begin()
        system.add_unknown("b")
        system.begin()
        system.add_unknown("c")
        system.commit()
        system.apply(("add_unknown", "d"))
        self.assertIsNotNone(outcome(lambda: system.add_unknown("d")))
        system.commit()
        system.undo()
        self.assertEqual(system.unknowns, ("a", "x"))
        system.undo()
        self.assertEqual(system.unknowns, ("x",))
        with self.assertRaises(NothingToUndo):
            system.undo()

    def test_a_transaction_that_changes_nothing_is_a_change(self):
        system = System.of(e="x")
        system.begin()
        system.commit()
        system.begin()
        self.assertIsNotNone(outcome(lambda: system.add_unknown("x")))
        system.begin()
        system.add_unknown("y")
        system.rollback()
        system.commit()
        system.undo(count=2)
        self.assertIsNotNone(outcome(system.undo))

    def test_what_is_rolled_back_is_no_change(self):
        system = System.of(e="x")
        system.add_unknown("y")
        system.begin()
        system.add_unknown("z")
        system.begin()
        system.commit()
        system.rollback()
        system.undo()
        self.assertEqual(system.unknowns, ("x",))
        with self.assertRaises(NothingToUndo):
            system.undo()

    def test_undo_in_a_transaction(self):
        system = System.of(e="x")
        system.begin()
        for count in (1, 5):
            with self.assertRaises(OpenTransaction):
                system.undo(count=count)
        system.rollback()
        system.add_unknown("y")
        system.begin()
        with self.assertRaises(OpenTransaction):
            system.undo()
        self.assertEqual((system.unknowns, system.depth), (("x", "y"), 1))
        system.commit()
        system.undo(count=2)
        self.assertEqual(system.unknowns, ("x",))

    def test_all_changes_and_one_more(self):
        for many in (1, 2, 60, 300):
            system = System.of(e="x")
            for number in range(many):
                if number & 1:
                    system.remove_unknown("y")
                else:
                    system.add_unknown("y")
            before = str(system)
            with self.assertRaises(NothingToUndo):
                system.undo(count=many + 1)
            self.assertEqual(str(system), before)
            system.undo(count=many)
            self.assertEqual(system, System.of(e="x"))
            with self.assertRaises(NothingToUndo):
                system.undo()

    def test_undo_is_no_change(self):
        system = System()
        for name in ("a", "b", "c", "d"):
            system.add_unknown(name)
        system.undo()
        system.undo(count=2)
        self.assertEqual(system.unknowns, ("a",))
        system.add_unknown("e")
        system.undo(count=2)
        self.assertEqual(system.unknowns, ())
        with self.assertRaises(NothingToUndo):
            system.undo()

    def test_equality_does_not_depend_on_the_history(self):
        system = System.of(e="x")
        system.add_unknown("y")
        system.remove_unknown("y")
        self.assertEqual(system, System.of(e="x"))
        system.undo()
        self.assertNotEqual(system, System.of(e="x"))


if __name__ == "__main__":
    unittest.main()
