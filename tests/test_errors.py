import unittest

from wheelrow import errors


class ErrorsTest(unittest.TestCase):
    def test_rest_error_stands_straight_under_value_error(self):
        self.assertEqual(errors.RestError.__bases__, (ValueError,))

    def test_the_others_stand_straight_under_rest_error(self):
        for name in ("BadRests", "BadNumbers", "BadRound", "BadRest", "BadCount", "BadText"):
            with self.subTest(name=name):
                self.assertEqual(getattr(errors, name).__bases__, (errors.RestError,))

    def test_each_is_raised_with_words_and_taken_as_a_rest_error(self):
        for name in ("BadRests", "BadNumbers", "BadRound", "BadRest", "BadCount", "BadText"):
            with self.subTest(name=name):
                with self.assertRaises(errors.RestError) as taken:
                    raise getattr(errors, name)("some words")
                self.assertEqual(str(taken.exception), "some words")

    def test_no_two_are_the_same(self):
        names = ("RestError", "BadRests", "BadNumbers", "BadRound", "BadRest", "BadCount", "BadText")
        self.assertEqual(len({getattr(errors, name) for name in names}), len(names))
