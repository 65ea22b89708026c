"""The examples of README.md."""

import doctest
import pathlib
import unittest


class ReadmeTest(unittest.TestCase):
    def test_examples(self):
        path = pathlib.Path(__file__).resolve().parent.parent / "README.md"
        result = doctest.testfile(str(path), module_relative=False, encoding="ascii")
        self.assertEqual(result.failed, 0)
        self.assertGreater(result.attempted, 5)


if __name__ == "__main__":
    unittest.main()
