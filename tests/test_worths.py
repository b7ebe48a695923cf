import copy
import random
import unittest

from latefare.sales import scales_of
from latefare.worths import row_worths, worths_of
from samples import LONG, SALE, TOLD, are_all_new, asked_worths, great_sales, small_sales, spoil


def asked_row(fares, row, scale, behind):
    """One list, written as the document says it, class by class."""
    numbers = [sum(row) * behind[0]]
    for sold, kept in zip(behind, behind[1:]):
        number = row[-1] * kept
        for weight, fare in zip(row, fares):
            number += weight * (kept if kept > fare * scale + sold else fare * scale + sold)
        numbers.append(number)
    return numbers


class RowWorthsTest(unittest.TestCase):
    def check(self, told, fares, row, scale, behind):
        handed_in = [fares, row, behind]
        before = copy.deepcopy(handed_in)
        with self.subTest(fares=fares, row=row, scale=scale, behind=behind):
            given = row_worths(fares, row, scale, behind)
            self.assertEqual(given, told)
            self.assertEqual(handed_in, before)
            self.assertTrue(are_all_new(given, handed_in))

    def test_no_seats_alone(self):
        self.check([54], [5, 7], [1, 2, 3], 4, [9])
        self.check([-54], [5, 7], [1, 2, 3], 4, [-9])
        self.check([0], [5, 7], [1, 2, 3], 4, [0])
        self.check([2000 * LONG], [10 ** 6], [1000, 1000], LONG, [LONG])

    def test_one_seat(self):
        # Sold, the seat leaves 5 * 4 + 9 = 29 or 7 * 4 + 9 = 37; kept, it leaves 30.
        self.check([54, 1 * 30 + 2 * 37 + 3 * 30], [5, 7], [1, 2, 3], 4, [9, 30])

    def test_ten_seats(self):
        # The steps are 50, 40, 30, 20, 10, 5, 0, -5, -50, -200: the second class is taken from 20 on, both from 10 on.
        behind = [0, 50, 90, 120, 140, 150, 155, 155, 150, 100, -100]
        told = [0, 350, 630, 840, 980, 1070, 1120, 1135, 1115, 900, -50]
        self.check(told, [10, 20], [1, 2, 4], 1, behind)

    def test_less_alike_and_more_than_the_seat_kept(self):
        for fare, worth in ((1, 12), (11, 12), (12, 12), (13, 13), (10 ** 6, 10 ** 6)):
            self.check([0, worth], [fare], [1, 0], 1, [0, 12])
        for fare, worth in ((3, 24), (4, 24), (5, 27), (6, 30)):
            self.check([84, 5 * worth + 2 * 24], [fare], [5, 2], 3, [12, 24])

    def test_a_class_of_weight_0(self):
        self.check([12, 4 * 9 + 8 * 3], [10 ** 6, 8], [0, 4, 8], 1, [1, 3])
        self.check([12, 4 * 9 + 8 * 3], [8, 10 ** 6], [4, 0, 8], 1, [1, 3])
        self.check([12, 36], [10 ** 6, 8], [0, 0, 12], 1, [1, 3])

    def test_the_weight_of_nobody(self):
        for weight in (0, 1, 2, 1000):
            self.check([3 + weight, 30 + 5 * weight], [9], [3, weight], 1, [1, 5])
        self.check([1, 5], [9], [0, 1], 1, [1, 5])

    def test_next_numbers_below_nought_and_0(self):
        self.check([-20, -15], [2], [5, 5], 1, [-2, -3])
        self.check([-200, -30], [2], [5, 5], 1, [-20, -3])
        self.check([-70, -30, -20], [2], [5, 5], 1, [-7, -3, -3])
        self.check([0, 10, 10], [2], [5, 5], 1, [0, 0, 0])

    def test_next_numbers_and_scales_of_120_figures(self):
        scale = 10 ** 119
        self.check([-5 * LONG, 5 * LONG], [1], [2, 3], scale, [-LONG, LONG])
        self.check([5 * LONG, 2 * scale + 5 * LONG], [1], [2, 3], scale, [LONG, LONG])
        self.check([5 * LONG, 2 * scale - LONG], [1], [2, 3], scale, [LONG, -LONG])
        for fare, more in ((6, 0), (7, 0), (8, 1)):
            self.check([2 * LONG - 14, 2 * LONG + more], [fare], [1, 1], 1, [LONG - 7, LONG])

    def test_many_rows(self):
        chance = random.Random(10)
        for number in range(300):
            classes = chance.randint(1, 6)
            fares = [chance.randint(1, 9) for place in range(classes)]
            row = [chance.randint(0, 3) for place in range(classes)] + [chance.randint(1, 3)]
            scale = chance.randint(1, 4)
            behind = [chance.randint(-20, 20) for s in range(chance.randint(1, 11))]
            self.check(asked_row(fares, row, scale, behind), fares, row, scale, behind)

    def test_the_list_given_is_the_askers_own(self):
        for behind in ([9], [9, 30], [0, 0, 0]):
            handed_in = ([5, 7], [0, 0, 1], 4, behind)
            before = copy.deepcopy(handed_in)
            given = row_worths(*handed_in)
            self.assertEqual(len(given), len(behind))
            told = list(given)
            spoil(given)
            self.assertEqual(handed_in, before)
            given = row_worths(*handed_in)
            self.assertEqual(given, told)
            spoil(handed_in)
            self.assertEqual(given, told)
            self.assertEqual(row_worths(*before), told)


class WorthsTest(unittest.TestCase):
    def test_written_out(self):
        self.assertEqual(worths_of(*SALE), TOLD)

    def test_the_last_scale_and_the_ends_count(self):
        fares, turns, last, ends = SALE
        self.assertEqual(worths_of(fares, turns, 7, ends), [[7 * number for number in numbers] for numbers in TOLD])
        # At the last turn 120 is taken with one seat left, not with two.
        self.assertEqual(worths_of(fares, turns[1:], 1, [0, 120, 241]), [[0, 840, 1322], [0, 120, 241]])

    def test_no_turns(self):
        for ends in ([0], [-3], [5, 6], list(range(11)), [-10 ** 50] * 11):
            handed_in = list(ends)
            given = worths_of([5, 7], [], 9, handed_in)
            self.assertEqual(given, [ends])
            self.assertIsNot(given[0], handed_in)

    def test_the_next_scale_is_the_one_behind_the_turn(self):
        # Turn 0 has the total 10, turn 1 the total 3: a fare of 4 counts 4 * 3 * 2 at turn 0, 4 * 2 at turn 1.
        self.assertEqual(worths_of([4], [[10, 0], [3, 0]], 2, [0, 0]), [[0, 240], [0, 24], [0, 0]])
        self.assertEqual(worths_of([4], [[10, 0], [0, 3]], 2, [0, 0]), [[0, 240], [0, 0], [0, 0]])

    def test_eight_turns_six_classes_ten_seats(self):
        sizes = []
        for sale in great_sales():
            fares, turns, last, ends = sale
            sizes.append((len(fares), len(turns), len(ends)))
            with self.subTest(sale=sale):
                self.assertEqual(worths_of(*sale), asked_worths(*sale))
        self.assertIn((6, 8, 11), sizes)

    def test_small_sales(self):
        for sale in small_sales():
            with self.subTest(sale=sale):
                self.assertEqual(worths_of(*sale), asked_worths(*sale))

    def test_each_list_is_made_of_the_next_one(self):
        for sale in list(small_sales()) + list(great_sales()):
            fares, turns, last, ends = sale
            scales = scales_of(turns, last)
            table = worths_of(*sale)
            with self.subTest(sale=sale):
                self.assertEqual(len(table), len(turns) + 1)
                self.assertEqual(table[-1], ends)
                for t, row in enumerate(turns):
                    self.assertEqual(table[t], row_worths(fares, row, scales[t + 1], table[t + 1]))

    def test_nothing_handed_in_is_changed_and_every_list_given_is_new(self):
        for sale in list(small_sales()) + list(great_sales()):
            before = copy.deepcopy(sale)
            given = worths_of(*sale)
            with self.subTest(sale=sale):
                self.assertEqual(sale, before)
                self.assertTrue(are_all_new(given, sale))

    def test_changing_one_list_changes_no_other(self):
        for sale in (SALE, ([5], [[0, 1]] * 3, 1, [4, 4]), ([5], [], 1, [4])):
            before = copy.deepcopy(sale)
            told = worths_of(*sale)
            for t in range(len(told)):
                given = worths_of(*sale)
                spoil(given[t])
                for other in range(len(told)):
                    if other != t:
                        self.assertEqual(given[other], told[other])
                self.assertEqual(sale, before)
                self.assertEqual(worths_of(*sale), told)
                spoil(given)
                self.assertEqual(sale, before)
                self.assertEqual(worths_of(*sale), told)

    def test_what_was_handed_in_may_be_changed_later(self):
        sale = copy.deepcopy(SALE)
        given = worths_of(*sale)
        spoil(sale)
        self.assertEqual(given, TOLD)
        self.assertEqual(worths_of(*SALE), TOLD)


if __name__ == "__main__":
    unittest.main()
