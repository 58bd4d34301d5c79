"""What README.md shows is what comes."""

import re
import unittest
from pathlib import Path

README = Path(__file__).resolve().parent.parent / "README.md"


class Shown(unittest.TestCase):
    def test_each_row_with_an_answer_behind_it(self):
        known = {}
        answers = 0
        for block in re.findall(r"```python\n(.*?)```", README.read_text(encoding="utf-8"), re.DOTALL):
            for row in block.splitlines():
                asked, sign, due = row.partition("  # ")
                exec(asked, known)
                if sign:
                    answers += 1
                    told = eval(asked.partition(" = ")[2] or asked, known)
                    self.assertEqual(told, eval(due, known), row)
        self.assertGreater(answers, 0)


if __name__ == "__main__":
    unittest.main()
