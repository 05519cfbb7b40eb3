"""All examples of the document's interface, each word by word."""

import doctest
import pathlib
import unittest

EXAMPLES = pathlib.Path(__file__).parent / "examples.txt"


class Examples(unittest.TestCase):

    def test_examples(self):
        failed, tried = doctest.testfile(str(EXAMPLES), module_relative=False)
        self.assertEqual(failed, 0)
        self.assertGreater(tried, 60)
