import copy
import itertools
import unittest

from latefare.papers import first_wrong
from latefare.sales import scales_of
from latefare.worths import row_worths, worths_of
from samples import SALE, TOLD, asked_worths, great_sales, small_sales

LONGEST = 10 ** 200 - 1


def places_of(table):
    return list(itertools.product(range(len(table)), range(len(table[0]))))


def with_more(table, place, more):
    t, s = place
    changed = copy.deepcopy(table)
    changed[t][s] += more
    return changed


def carried_on(sale, table, first):
    """The table with the lists ahead of the first one made anew, each of its next one."""
    fares, turns, last, ends = sale
    scales = scales_of(turns, last)
    carried = copy.deepcopy(table)
    for t in range(first - 1, -1, -1):
        carried[t] = row_worths(fares, turns[t], scales[t + 1], carried[t + 1])
    return carried


def last_first(place):
    t, s = place
    return (-t, s)


class FirstWrongTest(unittest.TestCase):
    def check(self, told, sale, table):
        before = copy.deepcopy((sale, table))
        with self.subTest(sale=sale, table=table):
            given = first_wrong(*sale, table)
            self.assertEqual(given, told)
            self.assertIs(type(given), type(told))
            self.assertEqual((sale, table), before)

    def test_none_of_the_worths(self):
        self.check(None, SALE, TOLD)
        for sale in list(small_sales()) + list(great_sales()):
            self.check(None, sale, worths_of(*sale))
            self.check(None, sale, asked_worths(*sale))

    def test_one_number_changed_anywhere(self):
        for sale in itertools.chain([SALE], small_sales(), itertools.islice(great_sales(), 4)):
            table = worths_of(*sale)
            for place in places_of(table):
                for more in (1, -1):
                    self.check(place, sale, with_more(table, place, more))

    def test_one_number_far_off(self):
        for place in places_of(TOLD):
            for more in (LONGEST, -LONGEST):
                self.check(place, SALE, with_more(TOLD, place, more))

    def test_two_numbers_changed(self):
        for sale in itertools.chain([SALE], itertools.islice(small_sales(), 24)):
            table = worths_of(*sale)
            for one, other in itertools.combinations(places_of(table), 2):
                told = min(one, other, key=last_first)
                for more in (1, -1):
                    self.check(told, sale, with_more(with_more(table, one, more), other, 5))

    def test_written_out(self):
        self.check((2, 0), SALE, [[1, 4800, 6960], [0, 721, 720], [3, 0, 0]])
        self.check((1, 1), SALE, [[1, 4800, 6960], [0, 721, 720], [0, 0, 0]])
        self.check((0, 0), SALE, [[1, 4800, 6961], [0, 720, 720], [0, 0, 0]])
        self.check((0, 2), SALE, [[0, 4800, 6961], [0, 720, 720], [0, 0, 0]])

    def test_a_change_puts_the_list_ahead_wrong_too_and_the_later_one_is_told(self):
        # Made of [0, 721, 720] the first list would be another one: it is wrong, too, but not told.
        changed = with_more(TOLD, (1, 1), 1)
        self.assertNotEqual(carried_on(SALE, changed, 1)[0], TOLD[0])
        self.check((1, 1), SALE, changed)

    def test_lists_made_of_a_wrong_one_are_right_themselves(self):
        for sale in itertools.chain([SALE], small_sales()):
            table = worths_of(*sale)
            for place in places_of(table):
                changed = carried_on(sale, with_more(table, place, 3), place[0])
                self.check(place, sale, changed)

    def test_a_table_from_other_ends_is_wrong_at_the_last_list(self):
        for sale in itertools.chain([SALE], small_sales(), great_sales()):
            fares, turns, last, ends = sale
            for s in range(len(ends)):
                other = ends[:s] + [end - 1 for end in ends[s:]]
                self.check((len(turns), s), sale, worths_of(fares, turns, last, other))

    def test_a_table_of_another_scale_or_other_fares(self):
        fares, turns, last, ends = SALE
        self.check((1, 1), SALE, worths_of(fares, turns, 2, ends))
        self.check((1, 1), SALE, worths_of([300, 121], turns, last, ends))
        self.check((0, 2), SALE, worths_of(fares, [[1, 4, 1], [2, 1, 1]], last, ends))

    def test_no_turns(self):
        self.check(None, ([5], [], 9, [4, 7]), [[4, 7]])
        self.check((0, 0), ([5], [], 9, [4, 7]), [[3, 6]])
        self.check((0, 1), ([5], [], 9, [4, 7]), [[4, 8]])
        self.check(None, ([5], [], 9, [4]), [[4]])
        self.check((0, 0), ([5], [], 9, [4]), [[-4]])

    def test_the_ends_themselves_may_stand_in_the_table(self):
        ends = [4, 7]
        sale = ([5], [[0, 1], [0, 1]], 1, ends)
        self.check(None, sale, [ends, ends, ends])


if __name__ == "__main__":
    unittest.main()
