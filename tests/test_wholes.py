import unittest

from latefare.wholes import is_within, power


class WholesTest(unittest.TestCase):
    def test_bounds_are_within(self):
        for number, told in ((-3, False), (-2, True), (0, True), (5, True), (6, False)):
            with self.subTest(number=number):
                self.assertIs(is_within(number, -2, 5), told)

    def test_truths_are_no_whole_numbers(self):
        self.assertIs(is_within(True, 0, 5), False)
        self.assertIs(is_within(False, 0, 5), False)

    def test_power(self):
        for base in (-2, 0, 1, 2, 7, 1000):
            for times in (0, 1, 2, 3, 10):
                with self.subTest(base=base, times=times):
                    self.assertEqual(power(base, times), base ** times)


if __name__ == "__main__":
    unittest.main()
