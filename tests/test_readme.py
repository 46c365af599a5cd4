"""The examples of README.md."""

import doctest
import pathlib
import unittest

README = pathlib.Path(__file__).resolve().parent.parent / "README.md"


def examples():
    """All blocks of README.md that hold an example, as one text."""
    blocks = README.read_text().split("```\n")[1::2]
    return "\n".join(block for block in blocks if block.startswith(">>>"))


class Readme(unittest.TestCase):
    def test_examples(self):
        parser = doctest.DocTestParser()
        test = parser.get_doctest(examples(), {}, "README.md", str(README), 0)
        self.assertGreater(len(test.examples), 0)
        told = []
        doctest.DocTestRunner(verbose=False).run(test, out=told.append)
        self.assertEqual("".join(told), "")


if __name__ == "__main__":
    unittest.main()
