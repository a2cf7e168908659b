import unittest

from ribbonloft import errors
from tests.support import ALL_ERRORS, WITH_FIELD, WITHOUT_FIELD


class ErrorsTest(unittest.TestCase):
    def test_the_base_is_a_value_error(self):
        self.assertEqual(errors.RibbonError.__bases__, (ValueError,))

    def test_all_classes_are_straight_under_the_base(self):
        for name in ALL_ERRORS:
            with self.subTest(name):
                self.assertEqual(getattr(errors, name).__bases__, (errors.RibbonError,))
                self.assertEqual(getattr(errors, name).__name__, name)

    def test_there_are_no_others(self):
        classes = [name for name, value in vars(errors).items() if isinstance(value, type)]
        self.assertEqual(sorted(classes), sorted(ALL_ERRORS + ["RibbonError"]))

    def test_fields(self):
        for name, field in WITH_FIELD.items():
            with self.subTest(name):
                for value in (0, 7, "abc"):
                    self.assertEqual(getattr(getattr(errors, name)(value), field), value)

    def test_those_without_field_are_raised_with_words(self):
        for name in WITHOUT_FIELD:
            with self.subTest(name):
                with self.assertRaises(getattr(errors, name)) as caught:
                    raise getattr(errors, name)("why")
                self.assertEqual(str(caught.exception), "why")


if __name__ == "__main__":
    unittest.main()
