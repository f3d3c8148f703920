"""Tests that the examples of README.md answer what stands beside them."""

import re
import unittest
from pathlib import Path

README = Path(__file__).resolve().parent.parent / "README.md"


class TestReadme(unittest.TestCase):
    def test_examples(self):
        names = {}
        count = 0
        for block in re.findall(r"```python\n(.*?)```", README.read_text(), re.DOTALL):
            for line in block.splitlines():
                code, mark, told = line.partition("  # ")
                if told and not re.match(r"\w+ = ", code):
                    self.assertEqual(repr(eval(code, names)), told.strip().partition(": no side")[0], line)
                    count += 1
                elif line:
                    exec(line, names)
        self.assertGreater(count, 20)


if __name__ == "__main__":
    unittest.main()
