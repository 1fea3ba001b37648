import unittest

from blockorder import errors
from tests.making import nested, strange_objects

FIELDS = {
    "InvalidName": ["name"],
    "DuplicateItem": ["item"],
    "UnknownItem": ["item"],
    "DuplicateEntry": ["entry"],
    "UnknownEntry": ["entry"],
    "TooLarge": ["limit"],
    "NoTransaction": [],
    "OpenTransaction": [],
    "NothingToUndo": [],
    "EditFailed": ["index"],
    "InvalidText": ["line"],
    "InvalidClaim": [],
    "FalseClaim": [],
    "InvalidNumber": ["number"],
    "PartNotEmpty": ["part"],
    "NotDetermined": ["unknown"],
    "SingularBlock": ["number"],
}
WITH_FIELD = [name for name in FIELDS if FIELDS[name]]


class ClassesTest(unittest.TestCase):
    def test_base(self):
        self.assertEqual(errors.BlockorderError.__bases__, (ValueError,))
        self.assertEqual(errors.BlockorderError.__module__, "blockorder.errors")

    def test_each_is_directly_below_the_base(self):
        for name in FIELDS:
            with self.subTest(name):
                self.assertEqual(getattr(errors, name).__bases__, (errors.BlockorderError,))
                self.assertEqual(getattr(errors, name).__module__, "blockorder.errors")

    def test_no_error_is_one_of_the_others(self):
        for name in FIELDS:
            for other in FIELDS:
                same = issubclass(getattr(errors, name), getattr(errors, other))
                self.assertEqual(same, name == other, (name, other))

    def test_each_can_be_raised_and_caught(self):
        for name in FIELDS:
            arguments = ["a"] * len(FIELDS[name])
            for caught in (getattr(errors, name), errors.BlockorderError, ValueError):
                with self.assertRaises(caught):
                    raise getattr(errors, name)(*arguments)


class FieldsTest(unittest.TestCase):
    def test_errors_without_fields(self):
        for name in FIELDS:
            if not FIELDS[name]:
                self.assertEqual(vars(getattr(errors, name)()), {}, name)

    def test_any_object_is_kept(self):
        things = strange_objects() + [object(), 2.5, b"e", frozenset("e")]
        for name in WITH_FIELD:
            for thing in things:
                error = getattr(errors, name)(thing)
                self.assertEqual(vars(error), {FIELDS[name][0]: thing}, name)

    def test_fields_by_keyword(self):
        for name in WITH_FIELD:
            field = FIELDS[name][0]
            error = getattr(errors, name)(**{field: ("equation", "e")})
            self.assertEqual(getattr(error, field), ("equation", "e"))

    def test_kinds_of_values_are_kept(self):
        for thing in [None, True, False, 1, 0, "e", (), [], {}, ("e", True), [1, (2,)], {1: {True: None}}]:
            kept = errors.UnknownItem(thing).item
            self.assertIs(type(kept), type(thing))
            self.assertEqual(repr(kept), repr(thing))

    def test_number_of_arguments(self):
        for name in WITH_FIELD:
            with self.assertRaises(TypeError):
                getattr(errors, name)()
            with self.assertRaises(TypeError):
                getattr(errors, name)("a", "b")


class CopiesTest(unittest.TestCase):
    def test_later_changes_of_an_argument_do_not_reach_the_error(self):
        for name in WITH_FIELD:
            inner = {"a": [1]}
            thing = ("equation", [inner])
            kept = getattr(getattr(errors, name)(thing), FIELDS[name][0])
            inner["a"].append(2)
            inner["b"] = 3
            thing[1].append(4)
            self.assertEqual(kept, ("equation", [{"a": [1]}]), name)

    def test_arguments_are_not_changed(self):
        for kind in ("tuple", "list", "dict", "mixed"):
            thing = nested(60, kind)
            errors.UnknownEntry((thing, thing))
            self.assertEqual(thing, nested(60, kind))

    def test_items_and_entries_are_plain_tuples(self):
        class Pair(tuple):
            pass

        self.assertIs(type(errors.UnknownItem(Pair(("equation", "e"))).item), tuple)
        self.assertIs(type(errors.UnknownEntry(Pair(("e", "x"))).entry), tuple)


if __name__ == "__main__":
    unittest.main()
