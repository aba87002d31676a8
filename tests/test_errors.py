import unittest

from turnyard.errors import NoNumber, NoText, NoTurn, NotWithin, YardError

REFUSALS = (NoTurn, NoText, NoNumber, NotWithin)


class Errors(unittest.TestCase):
    def test_yard_error_is_a_value_error(self):
        self.assertEqual(YardError.__bases__, (ValueError,))

    def test_each_refusal_is_a_yard_error(self):
        for refusal in REFUSALS:
            with self.subTest(refusal=refusal.__name__):
                with self.assertRaises(YardError):
                    raise refusal("words")
                with self.assertRaises(ValueError):
                    raise refusal("words")

    def test_no_refusal_lies_below_another(self):
        for one in REFUSALS:
            for other in REFUSALS:
                self.assertEqual(issubclass(one, other), one is other, (one, other))

    def test_a_yard_error_is_none_of_the_refusals(self):
        for refusal in REFUSALS:
            self.assertFalse(issubclass(YardError, refusal), refusal)


if __name__ == "__main__":
    unittest.main()
