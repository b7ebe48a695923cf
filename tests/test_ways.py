import copy
import unittest

from latefare.rules import is_taken
from latefare.sales import scales_of
from latefare.ways import best_way, way_worths
from latefare.worths import worths_of
from samples import (SALE, TOLD, all_ways, are_all_new, asked_worths, even_way, great_sales, lists_in, small_sales,
                     some_ways, spoil, summed_worths)

BEST = [[[], [0], [0, 1]], [[], [0, 1], [0, 1]]]
# Few enough stands that every way of each can be tried.
TINY = (
    ([3], [[1, 1]], 1, [0, 0]),
    ([3, 5], [[1, 2, 1], [2, 1, 3]], 2, [0, 7]),
    ([4, 9], [[1, 0, 1], [2, 1, 0]], 1, [-3, -20]),
    ([4], [[1, 1], [2, 1]], 3, [0, 5, 25]),
    ([4], [[1, 1], [0, 1], [3, 1]], 1, [0, 4]),
    ([2, 2, 6], [[1, 1, 1, 1]], 5, [10, 20]),
)


class WayWorthsTest(unittest.TestCase):
    def check(self, told, sale, way):
        handed_in = (sale, way)
        before = copy.deepcopy(handed_in)
        with self.subTest(sale=sale, way=way):
            given = way_worths(*sale, way)
            self.assertEqual(given, told)
            self.assertEqual(handed_in, before)
            self.assertTrue(are_all_new(given, handed_in))

    def test_nobody_is_taken(self):
        self.check([[0, 0, 0]] * 3, SALE, even_way(SALE, []))
        fares, turns, last, ends = SALE
        sale = (fares, turns, 9, [-1, 2, 5])
        self.check([[-24, 48, 120], [-4, 8, 20], [-1, 2, 5]], sale, even_way(sale, []))

    def test_everybody_is_taken(self):
        # With one seat 1200 + 3 * 480 + 2 * 720; with two the next list's 720 is there whoever comes.
        self.check([[0, 4080, 6960], [0, 720, 720], [0, 0, 0]], SALE, even_way(SALE, [0, 1]))

    def test_some_are_taken(self):
        way = [[[], [1], [0]], [[], [0], [1]]]
        self.check([[0, 3240, 2400], [0, 600, 120], [0, 0, 0]], SALE, way)
        self.check(TOLD, SALE, BEST)

    def test_a_way_may_take_at_a_loss(self):
        sale = ([5], [[1, 2]], 1, [0, 100])
        self.check([[0, 205], [0, 100]], sale, [[[], [0]]])
        self.check([[0, 300], [0, 100]], sale, [[[], []]])

    def test_classes_listed_for_no_seats(self):
        way = [[[0, 1], [1], [0]], [[0], [0], [1]]]
        self.check([[0, 3240, 2400], [0, 600, 120], [0, 0, 0]], SALE, way)
        self.check([[20, 35], [10, 20]], ([5], [[1, 1]], 1, [10, 20]), [[[0], [0]]])
        self.check([[20, 40], [10, 20]], ([5], [[1, 1]], 1, [10, 20]), [[[0], []]])
        self.check([[20], [10]], ([5], [[1, 1]], 1, [10]), [[[0]]])

    def test_no_turns(self):
        for ends in ([0], [-3], [5, 6], list(range(11))):
            self.check([list(ends)], ([5, 7], [], 9, ends), [])

    def test_the_worths_are_the_sums_over_all_rows_of_askers(self):
        for sale in small_sales():
            for way in some_ways(sale, 4):
                self.check(summed_worths(*sale, way), sale, way)

    def test_what_is_given_is_the_askers_own(self):
        for sale, way in ((SALE, BEST), (([5], [], 9, [4]), []), (([5], [[0, 1]], 1, [4, 4]), [[[], []]])):
            handed_in = copy.deepcopy((sale, way))
            told = way_worths(*sale, way)
            for t in range(len(told)):
                given = way_worths(*sale, way)
                spoil(given[t])
                self.assertEqual(given[:t] + given[t + 1:], told[:t] + told[t + 1:])
                spoil(given)
                self.assertEqual((sale, way), handed_in)
                self.assertEqual(way_worths(*sale, way), told)
            given = way_worths(*handed_in[0], handed_in[1])
            spoil(handed_in)
            self.assertEqual(given, told)


class BestWayTest(unittest.TestCase):
    def check(self, told, sale):
        before = copy.deepcopy(sale)
        with self.subTest(sale=sale):
            given = best_way(*sale)
            self.assertEqual(given, told)
            self.assertEqual(sale, before)
            self.assertTrue(are_all_new(given, sale))

    def test_written_out(self):
        self.check(BEST, SALE)

    def test_no_turns_and_no_seats(self):
        self.check([], ([5, 7], [], 9, [0, 0, 0]))
        self.check([], ([5, 7], [], 9, [0]))
        self.check([[[]], [[]]], ([5, 7], [[1, 2, 3], [0, 1, 0]], 9, [-4]))

    def test_nobody_for_0_seats_and_less_alike_and_more(self):
        self.check([[[], [0, 1]]], ([9, 5, 4], [[1, 1, 1, 1]], 1, [0, 5]))
        self.check([[[], [0, 1]]], ([9, 5, 4], [[1, 1, 1, 1]], 7, [0, 35]))
        self.check([[[], [0]]], ([9, 5, 4], [[1, 1, 1, 1]], 7, [0, 36]))
        self.check([[[], []]], ([9, 5, 4], [[1, 1, 1, 1]], 1, [0, 10]))
        self.check([[[], [0, 1, 2]]], ([9, 5, 4], [[1, 1, 1, 1]], 1, [0, -10]))

    def test_a_class_of_weight_0(self):
        self.check([[[], [0, 1]]], ([9, 5], [[0, 1, 1]], 1, [0, 3]))
        self.check([[[], [0, 1]]], ([9, 5], [[0, 0, 1]], 1, [0, 3]))
        self.check([[[], [0]]], ([9, 5], [[0, 0, 1]], 1, [0, 6]))

    def test_the_lists_rise(self):
        self.check([[[], [0, 2, 4, 5]]], ([7, 1, 5, 2, 6, 5], [[1, 1, 1, 1, 1, 1, 1]], 1, [0, 5]))

    def test_just_whom_the_rule_takes(self):
        for sale in list(small_sales()) + list(great_sales()):
            fares, turns, last, ends = sale
            scales = scales_of(turns, last)
            table = asked_worths(*sale)
            told = []
            for scale, behind in zip(scales[1:], table[1:]):
                told.append([])
                for s in range(len(ends)):
                    told[-1].append([place for place in range(len(fares)) if is_taken(fares[place], scale, behind, s)])
            self.check(told, sale)

    def test_its_worths_are_the_worths(self):
        for sale in list(small_sales()) + list(great_sales()):
            with self.subTest(sale=sale):
                self.assertEqual(way_worths(*sale, best_way(*sale)), worths_of(*sale))

    def test_summed_over_all_askers_it_comes_to_the_worths(self):
        for sale in small_sales():
            with self.subTest(sale=sale):
                self.assertEqual(summed_worths(*sale, best_way(*sale)), worths_of(*sale))

    def check_no_greater(self, sale, ways):
        table = worths_of(*sale)
        for way in ways:
            for numbers, most in zip(way_worths(*sale, way), table):
                for number, worth in zip(numbers, most):
                    self.assertLessEqual(number, worth)

    def test_no_way_at_all_is_worth_more(self):
        for sale in TINY:
            with self.subTest(sale=sale):
                self.check_no_greater(sale, all_ways(sale))

    def test_others_tried_are_worth_no_more(self):
        for sale in list(small_sales()) + list(great_sales()):
            with self.subTest(sale=sale):
                self.check_no_greater(sale, some_ways(sale, 6))

    def test_what_is_given_is_the_askers_own(self):
        for place in range(len(lists_in(BEST))):
            sale = copy.deepcopy(SALE)
            given = best_way(*sale)
            lists_in(given)[place].append(5)
            changed = copy.deepcopy(BEST)
            lists_in(changed)[place].append(5)
            self.assertEqual(given, changed)
            self.assertEqual(sale, SALE)
            self.assertEqual(best_way(*sale), BEST)
            given = best_way(*sale)
            spoil(sale)
            self.assertEqual(given, BEST)
            self.assertEqual(best_way(*SALE), BEST)


if __name__ == "__main__":
    unittest.main()
