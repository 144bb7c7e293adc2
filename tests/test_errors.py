import unittest

from farhaul import errors
from reference import ERROR_NAMES


class TestErrors(unittest.TestCase):
    def test_base_class(self):
        self.assertEqual(errors.HaulError.__bases__, (ValueError,))
        self.assertEqual(errors.HaulError(7).at, 7)

    def test_all_classes_stand_directly_below_the_base_class(self):
        self.assertEqual(len(ERROR_NAMES), 19)
        for name in ERROR_NAMES:
            kind = getattr(errors, name)
            self.assertEqual(kind.__bases__, (errors.HaulError,))
            self.assertEqual(kind.__module__, "farhaul.errors")

    def test_at(self):
        for name in ERROR_NAMES:
            for at in (-1, -(10 ** 30), 0, 1, 2 ** 32, 10 ** 50):
                error = getattr(errors, name)(at)
                self.assertEqual(error.at, at)
                self.assertEqual(vars(error), {"at": at})
                self.assertIsInstance(str(error), str)

    def test_each_is_of_no_other_class(self):
        for name in ERROR_NAMES:
            error = getattr(errors, name)(3)
            self.assertIsInstance(error, errors.HaulError)
            self.assertIsInstance(error, ValueError)
            for other in ERROR_NAMES:
                self.assertEqual(isinstance(error, getattr(errors, other)), other == name)

    def test_each_is_caught(self):
        for name in ERROR_NAMES:
            kind = getattr(errors, name)
            for caught in (kind, errors.HaulError, ValueError):
                with self.assertRaises(caught):
                    raise kind(5)
