"""What README.md shows runs, and tells what it says."""

import pathlib
import re
import unittest

TEXT = (pathlib.Path(__file__).resolve().parent.parent / "README.md").read_text()


class Readme(unittest.TestCase):

    def test_the_code_runs(self):
        names = {}
        for block in re.findall(r"```python\n(.*?)```", TEXT, re.DOTALL):
            exec(block, names)
        self.assertEqual(names["least"](names["small"]), names["small"])
        self.assertEqual(names["replayed"](names["form"], names["log"]), names["small"])
        self.assertIs(names["is_same"](names["form"], names["small"], names["shown"]), True)
        self.assertEqual(names["learn"](names["teacher"]), names["least"](names["form"]))
        self.assertIs(names["is_rewriter"](names["mirror"]), True)

    def test_each_line_with_a_value_tells_it(self):
        names = {}
        for block in re.findall(r"```python\n(.*?)```", TEXT, re.DOTALL):
            exec(block, names)
            for line in block.splitlines():
                told = re.fullmatch(r"(\w.*?\)) {2,}# (True|\(.*\)|\d+)", line)
                if told and "=" not in told[1]:
                    self.assertEqual(eval(told[1], names), eval(told[2], names), line)


if __name__ == "__main__":
    unittest.main()
