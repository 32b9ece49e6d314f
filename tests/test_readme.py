"""Holds the examples of README.md to what the program answers."""

import re
import unittest
from pathlib import Path

README = Path(__file__).resolve().parent.parent / "README.md"


class Readme(unittest.TestCase):
    def test_each_example_answers_what_stands_behind_it(self):
        lines = re.search(r"```python\n(.*?)```", README.read_text(encoding="utf-8"), re.S).group(1).split("\n")
        names, answered = {}, 0
        for line in lines:
            asked, sign, told = line.partition("  # ")
            if not sign:
                exec(line, names)
                continue
            answer = repr(eval(asked.strip(), names))
            self.assertTrue(told == answer or told.startswith(answer + ":"), f"{line!r}: {answer}")
            answered += 1
        self.assertGreater(answered, 30)


if __name__ == "__main__":
    unittest.main()
