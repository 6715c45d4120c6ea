import unittest

from keeplog import errors

REFUSALS = [errors.NoLetter, errors.NoPlace, errors.NoKeeper, errors.NoRoom, errors.NoSchedule]


class Errors(unittest.TestCase):
    def test_log_error_is_a_value_error(self):
        self.assertEqual(errors.LogError.__bases__, (ValueError,))

    def test_each_refusal_is_below_log_error_and_value_error(self):
        for refusal in REFUSALS:
            self.assertTrue(issubclass(refusal, errors.LogError))
            self.assertTrue(issubclass(refusal, ValueError))
            self.assertNotEqual(refusal, errors.LogError)

    def test_no_refusal_is_below_another(self):
        for refusal in REFUSALS:
            for other in REFUSALS:
                self.assertEqual(issubclass(refusal, other), refusal is other)

    def test_each_is_raised_and_taken_as_what_it_is(self):
        for refusal in REFUSALS:
            with self.assertRaises(errors.LogError) as caught:
                raise refusal("words")
            self.assertIs(type(caught.exception), refusal)


if __name__ == "__main__":
    unittest.main()
