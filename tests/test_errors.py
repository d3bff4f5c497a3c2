"""The errors of the interface and how they stand under each other."""

import unittest

from evenglasses import errors
from evenglasses.errors import BadEvening, BadRow, GlassError


class ErrorsTest(unittest.TestCase):
    def test_bases(self):
        self.assertEqual(GlassError.__bases__, (ValueError,))
        self.assertEqual(BadRow.__bases__, (GlassError,))
        self.assertEqual(BadEvening.__bases__, (GlassError,))

    def test_defined_in_their_file(self):
        for kind in (GlassError, BadRow, BadEvening):
            self.assertEqual(kind.__module__, errors.__name__)


if __name__ == "__main__":
    unittest.main()
