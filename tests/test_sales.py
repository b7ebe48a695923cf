import copy
import unittest

from latefare.sales import is_sale, scales_of, total_of

SIXTY = 10 ** 60 - 1
LEAST_SIXTY = 10 ** 59


def rows(number, classes):
    return [[1] * (classes + 1) for turn in range(number)]


def with_one(numbers, place, number):
    return numbers[:place] + [number] + numbers[place + 1:]


class IsSaleTest(unittest.TestCase):
    def check(self, told, seats, fares, turns):
        fares_kept = copy.deepcopy(fares)
        turns_kept = copy.deepcopy(turns)
        with self.subTest(seats=seats, fares=fares, turns=turns):
            self.assertIs(is_sale(seats, fares, turns), told)
            self.assertEqual(fares, fares_kept)
            self.assertEqual(turns, turns_kept)

    def test_seats(self):
        for seats in range(0, 11):
            self.check(True, seats, [5, 7], rows(3, 2))
        for seats in (-1, 11, -2, 12, 40, SIXTY, -SIXTY, LEAST_SIXTY, -LEAST_SIXTY):
            self.check(False, seats, [5, 7], rows(3, 2))

    def test_number_of_fares(self):
        for classes in range(1, 7):
            self.check(True, 3, [5] * classes, rows(3, classes))
            self.check(True, 3, [5] * classes, [])
        for classes in (0, 7, 8, 39, 40):
            self.check(False, 3, [5] * classes, rows(3, classes))
            self.check(False, 3, [5] * classes, [])

    def test_each_fare(self):
        for place in range(3):
            for fare in (1, 2, 999999, 10 ** 6):
                self.check(True, 3, with_one([5, 6, 7], place, fare), rows(2, 3))
            for fare in (0, -1, 10 ** 6 + 1, SIXTY, -SIXTY, LEAST_SIXTY, -LEAST_SIXTY):
                self.check(False, 3, with_one([5, 6, 7], place, fare), rows(2, 3))
                self.check(False, 3, with_one([5, 6, 7], place, fare), [])

    def test_fares_may_be_alike_and_in_any_order(self):
        self.check(True, 3, [7, 7, 1, 10 ** 6, 7, 2], rows(2, 6))

    def test_number_of_turns(self):
        for turns in range(0, 9):
            self.check(True, 3, [5, 7], rows(turns, 2))
        for turns in (9, 10, 39, 40):
            self.check(False, 3, [5, 7], rows(turns, 2))

    def test_length_of_each_row(self):
        for place in range(3):
            for length in (0, 1, 2, 4, 5, 40):
                self.check(False, 3, [5, 7], with_one(rows(3, 2), place, [1] * length))
            self.check(True, 3, [5, 7], with_one(rows(3, 2), place, [1] * 3))

    def test_each_weight(self):
        for turn in range(3):
            for place in range(3):
                for weight in (0, 1, 999, 1000):
                    row = with_one([4, 4, 4], place, weight)
                    self.check(True, 3, [5, 7], with_one(rows(3, 2), turn, row))
                for weight in (-1, 1001, SIXTY, -SIXTY, LEAST_SIXTY, -LEAST_SIXTY):
                    row = with_one([4, 4, 4], place, weight)
                    self.check(False, 3, [5, 7], with_one(rows(3, 2), turn, row))

    def test_not_all_weights_are_0(self):
        for turn in range(3):
            self.check(False, 3, [5, 7], with_one(rows(3, 2), turn, [0, 0, 0]))
            for place in range(3):
                row = with_one([0, 0, 0], place, 1)
                self.check(True, 3, [5, 7], with_one(rows(3, 2), turn, row))

    def test_all_at_the_bounds(self):
        self.check(True, 0, [1], [])
        self.check(True, 0, [1], [[0, 1]])
        self.check(True, 10, [10 ** 6] * 6, [[1000] * 7 for turn in range(8)])

    def test_weights_that_only_sum_up_rightly(self):
        self.check(False, 3, [5, 7], [[-1, 1, 1]])
        self.check(False, 3, [5, 7], [[1001, -1, 0]])

    def test_truths_are_no_whole_numbers(self):
        self.check(False, True, [5, 7], rows(3, 2))
        self.check(False, 3, [5, True], rows(3, 2))
        self.check(False, 3, [5, 7], [[1, False, 1]])


class TotalTest(unittest.TestCase):
    def test_total(self):
        for row, total in (([0, 1], 1), ([1, 0], 1), ([3, 0, 5], 8), ([1000] * 7, 7000), ([1, 2, 4, 8, 16, 32, 64], 127)):
            kept = list(row)
            with self.subTest(row=row):
                self.assertEqual(total_of(row), total)
                self.assertEqual(row, kept)


class ScalesTest(unittest.TestCase):
    def test_no_turns(self):
        for last in (1, 2, 1000, 10 ** 30, 10 ** 40):
            self.assertEqual(scales_of([], last), [last])

    def test_one_turn(self):
        for last in (1, 2, 1000, 10 ** 30, 10 ** 40):
            self.assertEqual(scales_of([[2, 3, 0]], last), [5 * last, last])

    def test_each_scale_is_that_of_its_own_turn(self):
        self.assertEqual(scales_of([[1, 1], [2, 1], [4, 1]], 7), [210, 105, 35, 7])

    def test_eight_turns(self):
        turns = [[turn, turn + 1] for turn in range(8)]
        for last in (1, 3, 10 ** 40):
            scales = scales_of(turns, last)
            self.assertEqual(len(scales), 9)
            self.assertEqual(scales[8], last)
            for turn in range(8):
                self.assertEqual(scales[turn], scales[turn + 1] * (2 * turn + 1))

    def test_greatest(self):
        turns = [[1000] * 7 for turn in range(8)]
        self.assertEqual(scales_of(turns, 10 ** 40), [7000 ** (8 - turn) * 10 ** 40 for turn in range(9)])

    def test_nothing_handed_in_is_changed(self):
        turns = [[1, 2], [3, 4], [0, 1]]
        scales_of(turns, 9)
        self.assertEqual(turns, [[1, 2], [3, 4], [0, 1]])

    def test_the_list_given_is_the_askers_own(self):
        for turns, told in (([], [9]), ([[1, 2], [3, 4]], [189, 63, 9])):
            given = scales_of(turns, 9)
            given[0] = -1
            given.append(5)
            self.assertEqual(scales_of(turns, 9), told)

    def test_what_was_handed_in_may_be_changed_later(self):
        turns = [[1, 2], [3, 4]]
        given = scales_of(turns, 9)
        turns[1][0] = 100
        turns.append([1, 1])
        self.assertEqual(given, [189, 63, 9])


if __name__ == "__main__":
    unittest.main()
