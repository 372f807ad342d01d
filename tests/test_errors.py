import unittest

from vancourier.errors import BadAct, BadMark, BadModel, CourierError


class ErrorsTest(unittest.TestCase):
    def test_the_base_class_is_a_value_error(self):
        self.assertEqual(CourierError.__bases__, (ValueError,))

    def test_the_others_are_direct_subclasses(self):
        for error in (BadModel, BadMark, BadAct):
            with self.subTest(error=error):
                self.assertEqual(error.__bases__, (CourierError,))

    def test_each_is_made_without_arguments(self):
        for error in (CourierError, BadModel, BadMark, BadAct):
            with self.subTest(error=error):
                with self.assertRaises(CourierError):
                    raise error()


if __name__ == "__main__":
    unittest.main()
