"""What several test files share."""

import unittest


class Case(unittest.TestCase):
    """A test case that looks at refusals."""

    def refused(self, kind, number, action, *args):
        """The call is refused by just this class of error, with this number."""
        with self.assertRaises(kind) as seen:
            action(*args)
        self.assertIs(type(seen.exception), kind)
        self.assertEqual(seen.exception.number, number)
