"""Point 17: the errors."""

import unittest

from alikeruns import errors


class Errors(unittest.TestCase):

    def test_the_base_class_is_a_direct_subclass_of_exception(self):
        self.assertEqual(errors.NodesError.__bases__, (Exception,))

    def test_each_error_is_a_direct_subclass_of_the_base_class_with_no_other_base(self):
        for name in ("BadValue", "BadState", "BadRow", "BadRun", "TooMany", "BadSyntax", "BadLine"):
            self.assertEqual(getattr(errors, name).__bases__, (errors.NodesError,), name)

    def test_each_error_keeps_its_argument(self):
        for name in ("BadValue", "BadState", "BadRow", "BadRun", "BadSyntax", "BadLine"):
            for at in (-1, 0, 7):
                self.assertEqual(getattr(errors, name)(at).at, at, name)
                self.assertEqual(getattr(errors, name)(at=at).at, at, name)
        for word in ("runs", "states", "moves", "rows", "sights"):
            self.assertEqual(errors.TooMany(word).word, word)
            self.assertEqual(errors.TooMany(word=word).word, word)

    def test_errors_are_raised_and_caught_by_their_classes(self):
        for name in ("BadValue", "BadState", "BadRow", "BadRun", "BadSyntax", "BadLine"):
            with self.assertRaises(errors.NodesError) as caught:
                raise getattr(errors, name)(3)
            self.assertIs(type(caught.exception), getattr(errors, name))
            self.assertEqual(caught.exception.at, 3)


if __name__ == "__main__":
    unittest.main()
