"""The examples of the document, just as they stand there."""

import pathlib
import unittest

HERE = pathlib.Path(__file__).parent


def told(error):
    worths = ", ".join(f"{name}={worth!r}" for name, worth in vars(error).items())
    return f"raises {type(error).__name__}({worths})"


def outcome(code, names):
    """What a row of an example shows: nothing, a result, or an error."""
    try:
        compiled = compile(code, "example", "eval")
    except SyntaxError:
        exec(code, names)
        return ""
    try:
        return repr(eval(compiled, names))
    except Exception as error:
        return told(error)


class Examples(unittest.TestCase):
    def run_file(self, name):
        names = {}
        count = 0
        lines = (HERE / name).read_text().splitlines()
        for k, line in enumerate(lines):
            if line.startswith(">>> "):
                shown = lines[k + 1] if k + 1 < len(lines) else ""
                wanted = "" if shown.startswith(">>> ") else shown
                self.assertEqual(outcome(line[4:], names), wanted, line)
                count += wanted != ""
        return count

    def test_part_1(self):
        self.assertEqual(self.run_file("examples_part1.txt"), 3)

    def test_part_2(self):
        self.assertEqual(self.run_file("examples_part2.txt"), 2)

    def test_part_3(self):
        self.assertEqual(self.run_file("examples_part3.txt"), 2)

    def test_part_4(self):
        self.assertEqual(self.run_file("examples_part4.txt"), 1)

    def test_part_5(self):
        self.assertEqual(self.run_file("examples_part5.txt"), 1)

    def test_part_6(self):
        self.assertEqual(self.run_file("examples_part6.txt"), 3)

    def test_part_7(self):
        self.assertEqual(self.run_file("examples_part7.txt"), 2)

    def test_part_8(self):
        self.assertEqual(self.run_file("examples_part8.txt"), 2)

    def test_part_9(self):
        self.assertEqual(self.run_file("examples_part9.txt"), 2)

    def test_part_10(self):
        self.assertEqual(self.run_file("examples_part10.txt"), 3)

    def test_part_11(self):
        self.assertEqual(self.run_file("examples_part11.txt"), 1)

    def test_part_12(self):
        self.assertEqual(self.run_file("examples_part12.txt"), 1)

    def test_part_13(self):
        self.assertEqual(self.run_file("examples_part13.txt"), 2)

    def test_part_14(self):
        self.assertEqual(self.run_file("examples_part14.txt"), 3)


if __name__ == "__main__":
    unittest.main()
