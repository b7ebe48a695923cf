import unittest

from latefare import errors

NAMES = ["NoSale", "NoClass", "Over", "Early", "Done", "TooMany", "Twice", "NoTurn", "Full", "NoRow"]


class ErrorsTest(unittest.TestCase):
    def test_fare_error_stands_under_value_error_alone(self):
        self.assertEqual(errors.FareError.__bases__, (ValueError,))

    def test_each_refusal_stands_under_fare_error_alone(self):
        for name in NAMES:
            with self.subTest(name=name):
                self.assertEqual(getattr(errors, name).__bases__, (errors.FareError,))

    def test_none_is_another_one(self):
        for name in NAMES:
            for other in NAMES:
                with self.subTest(name=name, other=other):
                    told = issubclass(getattr(errors, name), getattr(errors, other))
                    self.assertIs(told, name == other)

    def test_each_is_caught_by_fare_error_and_value_error_and_itself(self):
        for name in ["FareError"] + NAMES:
            own = getattr(errors, name)
            for taken in (own, errors.FareError, ValueError):
                with self.subTest(name=name, taken=taken):
                    with self.assertRaises(taken):
                        raise own("words")

    def test_each_bears_its_name(self):
        for name in ["FareError"] + NAMES:
            self.assertEqual(getattr(errors, name).__name__, name)


if __name__ == "__main__":
    unittest.main()
