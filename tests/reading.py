"""What holds for every function that reads a text at once."""

import unittest

from fivebases.errors import NoText
from values import values_of_all_kinds


class ReadingCase(unittest.TestCase):
    def assert_no_text(self, read, value):
        with self.assertRaises(NoText) as caught:
            read(value)
        self.assertEqual(caught.exception.at, 0)

    def assert_reads_neither(self, read, spoilt):
        """No spoilt text, and no value that is no string."""
        for text in spoilt:
            self.assert_no_text(read, text)
        for value in values_of_all_kinds():
            if not isinstance(value, str):
                self.assert_no_text(read, value)
