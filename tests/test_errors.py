"""The classes of annals.errors and how they stand to one another."""

import unittest

from annals import errors

NAMES = ("NoThing", "NoName", "BadPath", "BadFiles", "NoFit", "Clash",
         "NoVersion", "NoBranch", "BadBranch", "BadLine")


class Errors(unittest.TestCase):

    def test_annals_error_is_a_value_error(self):
        self.assertEqual(errors.AnnalsError.__bases__, (ValueError,))

    def test_each_refusal_stands_straight_under_annals_error(self):
        for name in NAMES:
            with self.subTest(name):
                self.assertEqual(getattr(errors, name).__bases__, (errors.AnnalsError,))

    def test_no_refusal_is_taken_by_the_name_of_another(self):
        for name in NAMES:
            for other in NAMES:
                with self.subTest(name=name, other=other):
                    taken = issubclass(getattr(errors, name), getattr(errors, other))
                    self.assertEqual(taken, name == other)

    def test_a_refusal_is_taken_as_annals_error_and_as_value_error(self):
        for name in NAMES:
            for above in (errors.AnnalsError, ValueError):
                with self.subTest(name=name, above=above):
                    with self.assertRaises(above):
                        raise getattr(errors, name)("words")


if __name__ == "__main__":
    unittest.main()
