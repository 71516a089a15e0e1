import unittest

from saltmill import errors
from saltmill.errors import SaltmillError

PLAIN = ("OctetError", "ChoiceError", "LengthError", "CostError", "OrderError")
PLACED = ("TextError", "StateError", "RecordError")


class ErrorsTest(unittest.TestCase):
    def test_base_class(self):
        self.assertEqual(SaltmillError.__bases__, (ValueError,))

    def test_all_are_direct_subclasses(self):
        for name in PLAIN + PLACED:
            self.assertEqual(getattr(errors, name).__bases__, (SaltmillError,), name)

    def test_there_are_no_others(self):
        names = {error.__name__ for error in SaltmillError.__subclasses__()}
        self.assertEqual(names, set(PLAIN + PLACED))

    def test_created_without_arguments(self):
        for name in PLAIN:
            with self.assertRaises(getattr(errors, name)):
                raise getattr(errors, name)()

    def test_created_with_a_place(self):
        for name in PLACED:
            for at in (0, 7):
                self.assertEqual(getattr(errors, name)(at).at, at, name)
                self.assertEqual(getattr(errors, name)(at=at).at, at, name)
                self.assertIn(str(at), str(getattr(errors, name)(at)))


if __name__ == "__main__":
    unittest.main()
