"""Runs the examples of the README: each line with a comment gives what the comment shows."""

import unittest
from pathlib import Path

from blockorder.errors import BlockorderError

README = Path(__file__).resolve().parent.parent / "README.md"


def examples():
    """Return the pairs of a line of code and what its comment shows, None if there is none."""
    blocks = README.read_text("utf-8").split("```python\n")[1:]
    lines = [line for block in blocks for line in block.split("```")[0].splitlines() if line]
    found = []
    for line in lines:
        code, _, comment = line.partition("  # ")
        if line.strip().startswith("#"):
            found[-1] = (found[-1][0], found[-1][1] + line.strip()[2:])
        else:
            found.append((code.strip(), comment.strip() or None))
    return found


class ReadmeTest(unittest.TestCase):
    def test_examples(self):
        names = {}
        for code, shown in examples():
            with self.subTest(code):
                if shown is None:
                    exec(code, names)
                elif shown.startswith("raises "):
                    with self.assertRaises(BlockorderError) as caught:
                        eval(code, names)
                    fields = ", ".join(repr(field) for field in vars(caught.exception).values())
                    self.assertEqual(f"{type(caught.exception).__name__}({fields})", shown[7:])
                else:
                    self.assertEqual(eval(code, names), eval(shown))

    def test_there_are_examples(self):
        self.assertGreater(len([shown for _, shown in examples() if shown]), 12)


if __name__ == "__main__":
    unittest.main()
