"""The examples of README.md hold."""

import unittest
from pathlib import Path

from examples import check_examples

README = Path(__file__).resolve().parent.parent / "README.md"


class Readme(unittest.TestCase):
    def test_examples(self):
        lines = README.read_text().split("\n")
        examples = [line for line in lines if line.startswith("    ") and line.strip() != ".ci/run"]
        self.assertGreater(len(examples), 20)
        check_examples(self, "\n".join(examples))


if __name__ == "__main__":
    unittest.main()
