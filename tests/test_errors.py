import unittest

from twistbrackets.errors import NoNumber, NoSum, NotRead, NoWord, TooGreat, TwistError

REFUSALS = (NoWord, NoNumber, NoSum, TooGreat, NotRead)


class ErrorsTest(unittest.TestCase):
    def test_twist_error_stands_under_value_error(self):
        self.assertEqual(TwistError.__bases__, (ValueError,))

    def test_each_refusal_stands_under_twist_error_alone(self):
        for refusal in REFUSALS:
            with self.subTest(refusal=refusal.__name__):
                self.assertEqual(refusal.__bases__, (TwistError,))

    def test_no_refusal_stands_under_another(self):
        for one in REFUSALS:
            for other in REFUSALS:
                with self.subTest(one=one.__name__, other=other.__name__):
                    self.assertEqual(issubclass(one, other), REFUSALS.index(one) == REFUSALS.index(other))

    def test_names(self):
        names = [refusal.__name__ for refusal in REFUSALS]
        self.assertEqual(names, ["NoWord", "NoNumber", "NoSum", "TooGreat", "NotRead"])

    def test_each_is_taken_as_twist_error_and_as_value_error_with_its_words(self):
        for refusal in REFUSALS:
            for taken_as in (TwistError, ValueError):
                with self.subTest(refusal=refusal.__name__, taken_as=taken_as.__name__):
                    with self.assertRaises(taken_as) as caught:
                        raise refusal("why it is refused")
                    self.assertEqual(str(caught.exception), "why it is refused")


if __name__ == "__main__":
    unittest.main()
