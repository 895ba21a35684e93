"""README.md shows how to use the program; what it shows must be so."""

import doctest
import pathlib
import unittest

README = pathlib.Path(__file__).resolve().parent.parent / "README.md"


class Readme(unittest.TestCase):
    def test_its_examples_hold(self):
        found = doctest.testfile(str(README), module_relative=False)
        self.assertGreater(found.attempted, 0)
        self.assertEqual(found.failed, 0)

    def test_it_says_how_to_run_the_tests(self):
        text = README.read_text("utf-8")
        self.assertIn("python3 -m unittest discover -s tests", text)
        self.assertIn("bash .ci/run", text)


if __name__ == "__main__":
    unittest.main()
