"""What the tests of refusals have in common."""

import unittest

from stretchkeeper.errors import KeepError
from things import named


class RefusalTest(unittest.TestCase):

    def assert_refused(self, kind, call, *handed):
        """Just this kind of refusal comes out, and no other error shows behind it."""
        with self.subTest(call.__name__, handed=[named(thing) for thing in handed]):
            try:
                call(*handed)
            except BaseException as error:
                self.assertIs(type(error), kind)
                self.assertIsInstance(error, KeepError)
                self.assertIsInstance(error, ValueError)
                self.assertIsNone(error.__cause__)
                self.assertTrue(error.__context__ is None or error.__suppress_context__)
            else:
                self.fail("nothing was refused")
