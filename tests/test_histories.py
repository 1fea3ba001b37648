"""Random histories of edits, transactions and undone changes, compared with a slow system."""

import copy
import random
import unittest

from blockorder.linear import LinearSystem
from blockorder.model import System
from blockorder.structure import Structure
from tests.making import nested, strange_objects
from tests.mirror import EDITS, LINEAR_EDITS, Mirror, outcome

NAMES = ["a", "b", "c", "unknowns"]
WRONG = [None, True, 0, 7, "", "A", "a b", "abcdefghi", "1a", (), [], {}, ("a",), ["a"], {"a": 1}, nested(60, "mixed")]
NUMBERS = [1, 2, -3, 10 ** 9, -10 ** 9, 0, 10 ** 9 + 1, -10 ** 9 - 1, 10 ** 5000, True, False, None, "1", [1], (1,)]
WEIGHTS = {"add_unknown": 2, "add_equation": 3, "add_entry": 6, "remove_entry": 2, "remove_equation": 1,
           "remove_unknown": 1, "add_row": 4, "set_coefficient": 4, "set_constant": 2}
BEGINNING = (("add_unknown", "a", "b", "c", "unknowns"), ("add_equation", "a", "a", "b"),
             ("add_equation", "b", "b", "c"), ("add_equation", "unknowns"))


class Chooser:
    """Chooses calls, most of them with arguments that fit."""

    def __init__(self, seed, linear):
        self.random, self.linear = random.Random(seed), linear

    def name(self):
        return self.random.choice(WRONG) if self.random.random() < 0.03 else self.random.choice(NAMES)

    def number(self):
        return self.random.choice(NUMBERS) if self.random.random() < 0.1 else self.random.choice([-2, -1, 1, 2, 3])

    def constant(self):
        return self.random.choice(NUMBERS) if self.random.random() < 0.1 else self.random.randint(-9, 9)

    def edit(self):
        words = LINEAR_EDITS if self.linear or self.random.random() < 0.1 else EDITS
        word = self.random.choices(words, [WEIGHTS[word] for word in words])[0]
        many = {"add_unknown": self.random.choice([0, 1, 1, 2]), "add_equation": self.random.randint(1, 4),
                "add_entry": 2, "remove_entry": 2, "remove_equation": 1, "remove_unknown": 1}
        if word == "add_row":
            keys = [name for name in [self.name() for _ in range(3)] if isinstance(name, str)]
            return (word, self.name(), self.constant(), {key: self.number() for key in keys})
        if word == "set_coefficient":
            return (word, self.name(), self.name(), self.number())
        if word == "set_constant":
            return (word, self.name(), self.constant())
        return (word, *[self.name() for _ in range(many[word])])

    def bent(self, edit, around):
        """Return an edit, a changed one, or an attempt."""
        chance = self.random.random()
        if chance < 0.25 and around < 7:
            inner = [self.bent(self.edit(), around + 1) for _ in range(self.random.randint(0, 3))]
            return ("attempt", *inner)
        if chance < 0.28:
            return self.random.choice([edit[:-1], edit + ("a",), list(edit), edit[1:], (edit,), "add_unknown", None,
                                       ("apply", edit), ("begin",), ("undo",), ("_take", None), {}, ((),), ()])
        return edit

    def call(self, depth):
        """Return the name of a method, its arguments and its named arguments."""
        chance = self.random.random()
        if chance < 0.06:
            return "begin", (), {}
        if chance < 0.06 + 0.02 * depth:
            return self.random.choice(["commit", "commit", "rollback"]), (), {}
        if chance < (0.12 if depth else 0.2) + 0.02 * depth:
            return "undo", (), self.random.choice([{}, {}, {"count": self.random.randint(1, 4)}])
        if chance < 0.5:
            return "apply", tuple(self.bent(self.edit(), 0) for _ in range(self.random.randint(0, 4))), {}
        word, *given = self.edit()
        return (word, tuple(given), {}) if self.linear or word in EDITS else ("begin", (), {})


def answers(structure):
    """Return all answers of the Structure as plain values."""
    return [
        structure.equations, structure.unknowns, structure.entries, structure.rank, structure.assignment,
        structure.cover, [part.text() for part in (structure.over, structure.well, structure.under)],
        [(block.text(), block.needs) for block in structure.walk()],
        [structure.entry_kind(*entry) for entry in structure.entries],
        [structure.closed_set(name) for name in structure.equations],
    ]


class HistoriesTest(unittest.TestCase):
    def run_history(self, kind, seed, steps):
        linear = kind is LinearSystem
        chooser, system, mirror = Chooser(seed, linear), kind(), Mirror(linear)
        other = kind.of(a="b", b="")
        system.apply(*BEGINNING)
        mirror.call("apply", *BEGINNING)
        for _ in range(steps):
            word, given, named = chooser.call(system.depth)
            kept = copy.deepcopy(given)
            before, earlier = str(system), system.structure
            seen = answers(earlier)
            raised = outcome(lambda: getattr(system, word)(*given, **named))
            self.assertEqual(raised, mirror.call(word, *kept, **named), (word, kept))
            self.assertEqual(given, kept)
            if raised is not None:
                self.assertEqual(str(system), before)
            self.compare(system, mirror)
            self.assertEqual(answers(earlier), seen)
        self.assertEqual(other, kind.of(a="b", b=""))

    def compare(self, system, mirror):
        text = mirror.written()
        self.assertEqual(str(system), text)
        self.assertEqual(system.depth, len(mirror.begun))
        rows = mirror.state["rows"]
        self.assertEqual(system.equations, tuple(sorted(rows)))
        self.assertEqual(system.unknowns, tuple(sorted(mirror.state["unknowns"])))
        self.assertEqual(system.entries, tuple(sorted((e, u) for e in rows for u in rows[e])))
        fresh = type(system).read(text)
        self.assertTrue(system == fresh and fresh == system and not system != fresh)
        again = Structure(system.equations, system.unknowns, system.entries)
        self.assertEqual(answers(system.structure), answers(again))
        self.assertEqual(answers(system.structure), answers(fresh.structure))

    def test_systems(self):
        for seed in range(30):
            with self.subTest(seed=seed):
                self.run_history(System, seed, 120)

    def test_linear_systems(self):
        for seed in range(100, 130):
            with self.subTest(seed=seed):
                self.run_history(LinearSystem, seed, 120)

    def test_numbers_after_a_history_are_those_of_a_new_system(self):
        for seed in range(200, 215):
            chooser, system = Chooser(seed, True), LinearSystem()
            system.apply(*BEGINNING)
            for _ in range(150):
                word, given, named = chooser.call(system.depth)
                outcome(lambda: getattr(system, word)(*given, **named))
                fresh = LinearSystem.read(str(system))
                for equation, unknown in system.entries:
                    self.assertEqual(system.coefficient(equation, unknown), fresh.coefficient(equation, unknown))
                for equation in system.equations:
                    self.assertEqual(system.constant(equation), fresh.constant(equation))
                for unknown in system.unknowns:
                    self.assertEqual(self.value_of(system, unknown), self.value_of(fresh, unknown))

    def value_of(self, system, unknown):
        found = []
        raised = outcome(lambda: found.append(system.value(unknown)))
        return found or raised


class OneWrongCallTest(unittest.TestCase):
    def test_every_strange_object_in_every_place(self):
        for thing in strange_objects():
            for kind in (System, LinearSystem):
                for word, *places in (("add_unknown", 1), ("add_unknown", 2), ("add_equation", 1), ("add_equation", 3),
                                      ("add_entry", 2), ("remove_entry", 2), ("remove_equation", 1),
                                      ("remove_unknown", 1)):
                    self.check(kind, word, places[0], thing)

    def test_every_strange_object_in_every_place_of_a_linear_system(self):
        for thing in strange_objects():
            self.check(LinearSystem, "set_coefficient", 3, thing)
            self.check(LinearSystem, "set_constant", 2, thing)

    def check(self, kind, word, many, thing):
        for place in range(many):
            for rest in (["e", "x", "y"], ["new", "y", "x"], ["f", "x", 3]):
                given = [*rest[:place], thing, *rest[place:]][:many]
                text = "unknowns x y\ne: 1 x = 0\nf: = 0" if kind is LinearSystem else "unknowns x y\ne: x\nf:"
                system, mirror = kind.read(text), Mirror(kind is LinearSystem)
                mirror.call("add_unknown", "x", "y")
                mirror.call("add_equation", "e", "x")
                mirror.call("add_equation", "f")
                raised = outcome(lambda: getattr(system, word)(*given))
                self.assertEqual(raised, mirror.call(word, *given))
                self.assertEqual(str(system), mirror.written())
                if raised is not None:
                    self.assertEqual(str(system), text)
                # The same call as an edit fails exactly if the method raises an error.
                system = kind.read(text)
                self.assertEqual(outcome(lambda: system.apply((word, *given))), raised and ("EditFailed", 0))
                self.assertEqual(str(system), mirror.written())


if __name__ == "__main__":
    unittest.main()
