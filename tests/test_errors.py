import unittest

from twinstride import errors

MADE_OF_A_TEXT = ("NoCase", "NoPlace", "NoMoment", "NoBuild", "TooMany", "TooBig", "Dry", "NoText", "NoLine")


class ErrorsTest(unittest.TestCase):
    def test_stride_error_is_a_value_error(self):
        self.assertEqual(errors.StrideError.__bases__, (ValueError,))

    def test_each_stands_right_under_stride_error(self):
        for name in MADE_OF_A_TEXT + ("NoRow",):
            with self.subTest(name):
                self.assertEqual(getattr(errors, name).__bases__, (errors.StrideError,))

    def test_none_stands_under_another_one(self):
        classes = [getattr(errors, name) for name in MADE_OF_A_TEXT + ("NoRow",)]
        self.assertEqual(len(set(classes)), 10)
        for one in classes:
            self.assertEqual([other for other in classes if issubclass(one, other)], [one])

    def test_made_of_a_text(self):
        for name in MADE_OF_A_TEXT:
            with self.subTest(name), self.assertRaises(errors.StrideError) as caught:
                raise getattr(errors, name)("some words")
            self.assertEqual(caught.exception.args, ("some words",))
            self.assertEqual(str(caught.exception), "some words")

    def test_no_row_has_its_row(self):
        for row in (0, 1, 64):
            with self.subTest(row), self.assertRaises(errors.StrideError) as caught:
                raise errors.NoRow(row)
            self.assertEqual(repr(caught.exception.row), repr(row))
            self.assertIsInstance(caught.exception, ValueError)

    def test_each_no_row_has_its_own(self):
        one = errors.NoRow(3)
        other = errors.NoRow(4)
        self.assertEqual((one.row, other.row), (3, 4))


if __name__ == "__main__":
    unittest.main()
