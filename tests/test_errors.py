import unittest

from fivebases import errors
from fivebases.errors import Fault, Malformed, NoText, Refused, ZeroDivisor

KINDS = (ZeroDivisor, Malformed, Refused, NoText)


class TestErrors(unittest.TestCase):
    def test_all_kinds_are_faults_and_faults_are_value_errors(self):
        self.assertTrue(issubclass(Fault, ValueError))
        for kind in KINDS:
            self.assertTrue(issubclass(kind, Fault))

    def test_no_kind_is_a_subclass_of_another_one(self):
        for one in KINDS:
            for two in KINDS:
                self.assertEqual(issubclass(one, two), one is two)

    def test_the_attributes(self):
        self.assertEqual(Refused("large").reason, "large")
        self.assertEqual(NoText(5).at, 5)

    def test_each_kind_stands_in_its_file(self):
        for kind in KINDS + (Fault,):
            self.assertEqual(kind.__module__, errors.__name__)
