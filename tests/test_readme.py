"""What README.md says that the program tells is what it tells."""

import pathlib
import re
import unittest

README = pathlib.Path(__file__).resolve().parent.parent / "README.md"


class Readme(unittest.TestCase):
    def test_examples(self):
        names = {}
        checked = 0
        for block in re.findall(r"```python\n(.*?)```", README.read_text(encoding="utf-8"), re.DOTALL):
            for line in block.splitlines():
                asked, told = re.fullmatch(r"(.*?)(?:\s+# (.*))?", line).groups()
                if told is None:
                    exec(asked, names)
                    continue
                with self.subTest(asked=asked):
                    self.assertEqual(repr(eval(asked, names)), told.split(": the ")[0])
                checked += 1
        self.assertGreater(checked, 20)


if __name__ == "__main__":
    unittest.main()
