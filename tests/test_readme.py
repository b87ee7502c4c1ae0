"""The examples of README.md tell what the program returns."""

import pathlib
import unittest

from rimtrails import errors

README = pathlib.Path(__file__).resolve().parent.parent / "README.md"


class Examples(unittest.TestCase):
    def test_each_row_with_an_answer(self):
        names = {}
        told = 0
        for block in README.read_text().split("```python\n")[1:]:
            for row in block.split("```")[0].splitlines():
                code, _, answer = row.partition("  # ")
                if answer.strip().startswith("raises "):
                    self.assertRaises(getattr(errors, answer.split()[1].partition("(")[0]), eval, code, names)
                    told += 1
                elif answer and " = " not in code:
                    self.assertEqual(eval(code, names), eval(answer, names), row)
                    told += 1
                elif row:
                    exec(row, names)
                    if answer:
                        self.assertEqual(names[code.split(" = ")[0]], eval(answer, names), row)
        self.assertGreater(told, 15)


if __name__ == "__main__":
    unittest.main()
