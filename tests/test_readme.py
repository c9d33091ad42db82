"""What README.md shows is so."""

import doctest
import pathlib
import unittest


class Readme(unittest.TestCase):
    def test_its_examples(self):
        path = pathlib.Path(__file__).parent.parent / "README.md"
        told = doctest.testfile(str(path), module_relative=False)
        self.assertEqual(told.failed, 0)
        self.assertGreater(told.attempted, 0)


if __name__ == "__main__":
    unittest.main()
