import copy
import itertools
import unittest

from latefare.rules import is_taken, least_fare, steps_fall
from latefare.sales import scales_of
from latefare.shows import ends_of, last_scale
from latefare.worths import worths_of
from samples import LONG, falling_sales

SIXTY = 10 ** 60 - 1
SCALES = (1, 2, 7, 1000, 10 ** 119, LONG)


def greater_by_one(steps, place):
    """The numbers with these steps, but the one at the place greater by one than the one ahead of it."""
    steps = list(steps)
    steps[place] = steps[place - 1] + 1
    return list(itertools.accumulate(steps, initial=5))


class IsTakenTest(unittest.TestCase):
    def check(self, told, fare, scale, behind, s):
        before = list(behind)
        with self.subTest(fare=fare, scale=scale, behind=behind, s=s):
            self.assertIs(is_taken(fare, scale, behind, s), told)
            self.assertEqual(behind, before)

    def check_edge(self, fare, scale, behind, s):
        """The fare is just enough."""
        for more, told in ((-SIXTY, False), (-2, False), (-1, False), (0, True), (1, True), (SIXTY, True)):
            self.check(told, fare + more, scale, behind, s)

    def test_the_sums_just_alike(self):
        self.check_edge(12, 1, [0, 12], 1)
        self.check_edge(4, 3, [0, 12], 1)
        self.check_edge(4, 3, [7, 19], 1)
        self.check_edge(0, 3, [7, 7], 1)
        self.check_edge(-4, 3, [19, 7], 1)
        self.check_edge(10 ** 6, 10 ** 40, [-10 ** 46, 0], 1)

    def test_one_coin_of_the_scale_too_few(self):
        self.check(True, 4, 3, [0, 12], 1)
        self.check(False, 4, 3, [0, 13], 1)
        self.check(True, 4, 3, [0, 11], 1)
        self.check(False, 4, 3, [-1, 12], 1)

    def test_the_place_is_that_of_the_seats_left(self):
        behind = [0, 10, 30, 31, 20, 20, 50, 50, 49, 149, 150]
        for s, fare in ((1, 10), (2, 20), (3, 1), (4, -11), (5, 0), (6, 30), (7, 0), (8, -1), (9, 100), (10, 1)):
            self.check_edge(fare, 1, behind, s)

    def test_no_seats_left(self):
        for fare in (-SIXTY, -1, 0, 1, 10 ** 6, SIXTY):
            for behind in ([0], [5, 0], [0, -SIXTY], [-5, -10, -20], [LONG], [-LONG, LONG]):
                for scale in SCALES:
                    self.check(False, fare, scale, behind, 0)

    def test_fares_of_sixty_figures(self):
        for scale in SCALES:
            for fare in (SIXTY, 10 ** 59, -SIXTY, -10 ** 59):
                self.check_edge(fare, scale, [3, 3 + fare * scale], 1)
        self.check(True, SIXTY, 1, [0, SIXTY], 1)
        self.check(False, SIXTY, 1, [0, SIXTY + 1], 1)
        self.check(False, -SIXTY, 1, [0, 0], 1)

    def test_lists_of_120_figures(self):
        self.check(False, SIXTY, 1, [-LONG, LONG], 1)
        self.check(True, -SIXTY, 1, [LONG, -LONG], 1)
        self.check_edge(2 * LONG, 1, [-LONG, LONG], 1)
        self.check_edge(-2 * LONG, 1, [LONG, -LONG], 1)


class LeastFareTest(unittest.TestCase):
    def check(self, told, scale, behind, s):
        before = list(behind)
        with self.subTest(scale=scale, behind=behind, s=s):
            self.assertEqual(least_fare(scale, behind, s), told)
            self.assertIs(is_taken(told, scale, behind, s), True)
            self.assertIs(is_taken(told - 1, scale, behind, s), False)
            self.assertEqual(behind, before)

    def test_written_out(self):
        for step, told in ((12, 3), (13, 4), (15, 4), (16, 4), (11, 3), (9, 3), (8, 2), (1, 1), (0, 0), (-1, 0)):
            self.check(told, 4, [7, 7 + step], 1)
        for step, told in ((-3, 0), (-4, -1), (-5, -1), (-7, -1), (-8, -2), (-9, -2), (-12, -3)):
            self.check(told, 4, [7, 7 + step], 1)

    def test_a_multiple_of_the_scale_one_more_and_one_less(self):
        for scale in SCALES:
            for fare in (-SIXTY, -3, -1, 0, 1, 2, 10 ** 6, SIXTY):
                for ahead in (0, -5, LONG, -LONG):
                    step = fare * scale
                    self.check(fare, scale, [ahead, ahead + step], 1)
                    self.check(fare + 1, scale, [ahead, ahead + step + 1], 1)
                    self.check(fare if scale > 1 else fare - 1, scale, [ahead, ahead + step - 1], 1)

    def test_scale_1(self):
        for step in (-LONG, -2, -1, 0, 1, 2, LONG):
            self.check(step, 1, [9, 9 + step], 1)
        self.check(2 * LONG, 1, [-LONG, LONG], 1)
        self.check(-2 * LONG, 1, [LONG, -LONG], 1)

    def test_a_scale_of_120_figures(self):
        for step, told in ((LONG, 1), (LONG - 1, 1), (1, 1), (0, 0), (-1, 0), (1 - LONG, 0), (-LONG, -1)):
            self.check(told, LONG, [0, step], 1)
        self.check(2, LONG, [-LONG, LONG], 1)
        self.check(-2, LONG, [LONG, -LONG], 1)
        self.check(2, LONG, [-1, LONG], 1)

    def test_the_place_is_that_of_the_seats_left(self):
        behind = [0, 10, 30, 31, 20, 20, 50, 50, 49, 149, 150]
        for s, told in enumerate([4, 7, 1, -3, 0, 10, 0, 0, 34, 1], start=1):
            self.check(told, 3, behind, s)


class StepsFallTest(unittest.TestCase):
    def check(self, told, ends):
        before = list(ends)
        with self.subTest(ends=ends):
            self.assertIs(steps_fall(ends), told)
            self.assertEqual(ends, before)

    def test_one_or_two_numbers(self):
        for number in (0, 1, -1, LONG, -LONG):
            self.check(True, [number])
            for other in (0, 1, -1, 5, LONG, -LONG):
                self.check(True, [number, other])

    def test_three_numbers(self):
        for ends in ([0, 0, 0], [0, 1, 2], [0, 2, 3], [0, -1, -2], [0, -1, -3], [5, 9, 5], [-LONG, LONG, LONG]):
            self.check(True, ends)
        for ends in ([0, 0, 1], [0, 1, 3], [0, -1, -1], [0, -2, -3], [9, 5, 9], [LONG, -LONG, -LONG], [1, 0, 0]):
            self.check(False, ends)

    def test_steps_all_alike(self):
        for step in (0, 1, -1, 1000, -10 ** 118, 10 ** 118):
            for many in range(1, 12):
                self.check(True, [7 + place * step for place in range(many)])

    def test_one_step_greater_by_one(self):
        alike = [4] * 10
        falling = [20, 15, 12, 12, 3, 0, -1, -7, -30, -31]
        great = [step * 10 ** 117 for step in falling]
        for steps in (alike, falling, great):
            self.check(True, list(itertools.accumulate(steps, initial=5)))
            for place in range(1, 10):
                self.check(False, greater_by_one(steps, place))
                self.check(False, greater_by_one(steps[:place + 1], place))

    def test_a_step_is_held_to_the_one_ahead_not_to_the_first(self):
        self.check(False, [0, 10, 15, 21, 22])
        self.check(False, [0, 10, 10, 11])

    def test_falling_numbers_are_no_falling_steps(self):
        self.check(False, [10, 5, 4])
        self.check(True, [1, 5, 8])


class FallingSalesTest(unittest.TestCase):
    def check(self, fares, turns, last, ends):
        scales = scales_of(turns, last)
        table = worths_of(fares, turns, last, ends)
        least = []
        for scale, behind in zip(scales[1:], table[1:]):
            least.append([least_fare(scale, behind, s) for s in range(1, len(ends))])
        for numbers in table:
            self.assertIs(steps_fall(numbers), True)
        for row in least:
            self.assertEqual(row, sorted(row, reverse=True))
        for s in range(len(ends) - 1):
            column = [row[s] for row in least]
            self.assertEqual(column, sorted(column, reverse=True))

    def test_least_fares_never_rise_with_seats_or_later_turns(self):
        for sale in falling_sales():
            with self.subTest(sale=sale):
                self.check(*copy.deepcopy(sale))

    def test_ends_of_rules(self):
        fares = [100, 40, 900]
        turns = [[3, 5, 1, 2], [0, 1, 0, 3], [2, 2, 2, 0], [1, 9, 4, 4], [0, 0, 1, 9]]
        for room, came, of, due in ((0, 1, 2, 7), (3, 9, 10, 500), (5, 4, 5, 10 ** 6), (10, 1, 1, 3), (2, 1, 1, 90)):
            for seats in (0, 1, 4, 10):
                rule = (room, came, of, due)
                with self.subTest(rule=rule, seats=seats):
                    self.check(fares, turns, last_scale(seats, rule), ends_of(seats, rule))


if __name__ == "__main__":
    unittest.main()
