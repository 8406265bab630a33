"""What tests of several files ask alike."""

import unittest

from fanweave.errors import SpinError, TooLong


class RefusalCase(unittest.TestCase):
    def refused(self, kind, call, *things, **named):
        """The call is refused with just this kind of refusal, which is told."""
        with self.assertRaises(SpinError, msg=repr((things, named))) as told:
            call(*things, **named)
        self.assertIs(type(told.exception), kind, repr((things, named)))
        return told.exception

    def too_long(self, most, call, *things):
        """The call is refused as too long where so many turns are let."""
        error = self.refused(TooLong, call, *things, most=most)
        self.assertEqual((error.turns, error.moves), (most, None))
