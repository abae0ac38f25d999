"""The examples of README.md: each row with a remark tells what the remark says."""

import re
import unittest
from pathlib import Path

README = Path(__file__).resolve().parent.parent / "README.md"


def blocks():
    return re.findall(r"```python\n(.*?)```", README.read_text("utf-8"), re.DOTALL)


class ReadmeTest(unittest.TestCase):
    def test_each_example_tells_what_its_remark_says(self):
        checked = 0
        for block in blocks():
            names = {}
            for row in block.splitlines():
                asked, sign, wanted = row.partition("  # ")
                if not sign:
                    exec(row, names)
                    continue
                with self.subTest(row=row):
                    self.assertEqual(eval(asked, names), eval(wanted, names))
                    checked += 1
        self.assertGreaterEqual(checked, 80)


if __name__ == "__main__":
    unittest.main()
