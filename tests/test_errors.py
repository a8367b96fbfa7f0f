"""The error classes: what each stands under, and what it keeps."""

import unittest

from hintring import errors

WITH_NUMBER = {"NoPlace": LookupError, "NoMoment": LookupError, "NoDeed": LookupError,
               "NoVersion": LookupError, "NoPoint": LookupError, "NoEpoch": LookupError,
               "BadLine": ValueError}
WITHOUT = {"NothingDone": LookupError, "CanNot": ValueError, "TooMany": ValueError, "Unfit": ValueError}


class Errors(unittest.TestCase):
    def test_each_stands_directly_under_its_built_in_class(self):
        for name, base in {**WITH_NUMBER, **WITHOUT}.items():
            kind = getattr(errors, name)
            self.assertEqual(kind.__bases__, (base,), name)
            self.assertEqual(kind.__module__, "hintring.errors")
            self.assertEqual(kind.__name__, name)

    def test_number_is_kept(self):
        for name in WITH_NUMBER:
            kind = getattr(errors, name)
            self.assertEqual(kind(7).number, 7)
            self.assertEqual(kind(number=-3).number, -3)
            self.assertEqual(vars(kind(5)), {"number": 5})
            self.assertRaises(TypeError, kind)

    def test_others_keep_nothing(self):
        for name in WITHOUT:
            self.assertEqual(vars(getattr(errors, name)()), {})

    def test_there_are_no_others(self):
        found = {name for name, worth in vars(errors).items() if isinstance(worth, type)}
        self.assertEqual(found, set(WITH_NUMBER) | set(WITHOUT))


if __name__ == "__main__":
    unittest.main()
