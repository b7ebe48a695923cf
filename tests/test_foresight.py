import copy
import itertools
import random
import time
import unittest

from latefare.foresight import foresight_of, known_best, weight_of
from latefare.worths import worths_of
from samples import all_askers, great_sales, random_sale, small_sales

TURNS = [[1, 3, 2], [2, 0, 5]]
FARES = [300, 120, 500]


def all_of_them(parts):
    product = 1
    for part in parts:
        product *= part
    return product


def best_choice(seats, fares, askers):
    """The most that so many of the askers pay as there are seats, by trying every choice of them."""
    asked = [fares[asker] for asker in askers if asker is not None]
    return max(sum(chosen) for chosen in itertools.combinations(asked, min(seats, len(asked))))


def summed_foresight(seats, fares, turns):
    """The foresight by going through all lists of askers."""
    together = 0
    for askers in all_askers(fares, turns):
        weights = [row[len(fares) if asker is None else asker] for row, asker in zip(turns, askers)]
        together += all_of_them(weights) * best_choice(seats, fares, askers)
    return together


def counted_foresight(seats, fares, turns):
    """The foresight by the numbers of askers of each class, whatever their order: for many turns, too."""
    numbers = {(0,) * len(fares): 1}
    for row in turns:
        later = {}
        for counts, weight in numbers.items():
            for place in range(len(fares) + 1):
                more = tuple(count + (at == place) for at, count in enumerate(counts))
                later[more] = later.get(more, 0) + weight * row[place]
        numbers = later
    return sum(weight * paid_of(seats, fares, counts) for counts, weight in numbers.items())


def paid_of(seats, fares, counts):
    asked = [fare for fare, count in zip(fares, counts) for one in range(count)]
    return sum(sorted(asked)[max(len(asked) - seats, 0):])


class WeightTest(unittest.TestCase):
    def check(self, told, turns, askers):
        before = copy.deepcopy((turns, askers))
        with self.subTest(turns=turns, askers=askers):
            self.assertEqual(weight_of(turns, askers), told)
            self.assertEqual((turns, askers), before)

    def test_no_turns(self):
        self.check(1, [], [])

    def test_each_asker_of_one_turn(self):
        for asker, told in ((0, 4), (1, 7), (2, 0), (None, 9)):
            self.check(told, [[4, 7, 0, 9]], [asker])

    def test_written_out(self):
        for askers, told in (([0, 0], 2), ([1, 0], 6), ([None, 0], 4), ([0, None], 5), ([1, None], 15),
                             ([None, None], 10)):
            self.check(told, TURNS, askers)

    def test_a_class_of_weight_0(self):
        for asker in (0, 1, None):
            self.check(0, TURNS, [asker, 1])
            self.check(0, [TURNS[1], TURNS[0]], [1, asker])

    def test_nobody_of_weight_0(self):
        self.check(0, [[1, 0], [2, 3]], [None, 0])
        self.check(2, [[1, 0], [2, 3]], [0, 0])

    def test_eight_turns(self):
        self.check(1000 ** 8, [[1000] * 7] * 8, [0, 1, 2, 3, 4, 5, None, 0])
        turns = [[t + 1, 100 * (t + 1)] for t in range(8)]
        self.check(40320, turns, [0] * 8)
        self.check(40320 * 100 ** 8, turns, [None] * 8)
        self.check(40320 * 100 ** 2, turns, [0, None, 0, 0, None, 0, 0, 0])


class KnownBestTest(unittest.TestCase):
    def check(self, told, seats, fares, askers):
        before = copy.deepcopy((fares, askers))
        with self.subTest(seats=seats, fares=fares, askers=askers):
            self.assertEqual(known_best(seats, fares, askers), told)
            self.assertEqual((fares, askers), before)

    def test_no_turns(self):
        for seats in (0, 1, 10):
            self.check(0, seats, FARES, [])

    def test_no_seats(self):
        for askers in ([0], [2, 2, 2], [None, 1]):
            self.check(0, 0, FARES, askers)

    def test_nobody_asks(self):
        for seats in (0, 1, 10):
            self.check(0, seats, FARES, [None] * 8)

    def test_fewer_askers_than_seats_just_as_many_and_more(self):
        for seats, told in ((0, 0), (1, 500), (2, 800), (3, 920), (4, 920), (10, 920)):
            for askers in itertools.permutations([0, 1, 2]):
                self.check(told, seats, FARES, list(askers))

    def test_nobody_among_the_askers(self):
        for seats, told in ((0, 0), (1, 500), (2, 620), (3, 620)):
            self.check(told, seats, FARES, [None, 1, None, 2])
            self.check(told, seats, FARES, [2, None, None, 1])

    def test_the_dearest_pay_whatever_their_order(self):
        for seats, told in ((1, 500), (2, 1000), (3, 1300), (4, 1600), (5, 1720)):
            self.check(told, seats, FARES, [1, 0, 2, None, 0, 2])
            self.check(told, seats, FARES, [2, 0, None, 2, 0, 1])

    def test_fares_alike(self):
        for seats, told in ((0, 0), (1, 7), (2, 14), (3, 21), (4, 23), (5, 23)):
            self.check(told, seats, [7, 2, 7], [0, 1, 2, 0])

    def test_at_the_bounds(self):
        self.check(8 * 10 ** 6, 10, [10 ** 6] * 6, [0, 1, 2, 3, 4, 5, 0, 1])
        self.check(8, 10, [1] * 6, [0, 1, 2, 3, 4, 5, 0, 1])

    def test_every_list_of_askers(self):
        for fares in ([5, 9], [9, 5], [4, 4], [3, 8, 3]):
            for turns in range(5):
                for askers in all_askers(fares, [None] * turns):
                    for seats in range(turns + 2):
                        self.check(best_choice(seats, fares, askers), seats, fares, list(askers))


class ForesightTest(unittest.TestCase):
    def check(self, told, seats, fares, turns):
        before = copy.deepcopy((fares, turns))
        with self.subTest(seats=seats, fares=fares, turns=turns):
            self.assertEqual(foresight_of(seats, fares, turns), told)
            self.assertEqual((fares, turns), before)

    def test_written_out(self):
        # Both pay with weight 2, the first one alone with 3, the second one alone with 4.
        turns = [[1, 2], [2, 3]]
        for seats, told in ((0, 0), (1, 10 * (2 + 3 + 4)), (2, 20 * 2 + 10 * 3 + 10 * 4), (3, 110), (10, 110)):
            self.check(told, seats, [10], turns)

    def test_two_classes_written_out(self):
        # One seat: 300 of all lists with class 0 (24 - 5 * 2), 120 of the others but that of nobody at all.
        turns = [[1, 3, 2], [2, 1, 1]]
        self.check(300 * (24 - 10) + 120 * (10 - 2), 1, [300, 120], turns)
        self.check(300 * 1 * 4 + 120 * 3 * 4 + 300 * 2 * 6 + 120 * 1 * 6, 2, [300, 120], turns)

    def test_no_seats(self):
        for fares, turns, last, ends in itertools.chain(small_sales(), great_sales()):
            self.check(0, 0, fares, turns)

    def test_no_turns(self):
        for seats in range(11):
            self.check(0, seats, FARES, [])

    def test_nobody_comes_at_all(self):
        self.check(0, 3, [5, 7], [[0, 0, 4]] * 8)

    def test_only_one_list_can_come(self):
        for seats in range(4):
            for askers in all_askers(FARES, [None] * 3):
                turns = [[0] * 4, [0] * 4, [0] * 4]
                for row, asker in zip(turns, askers):
                    row[3 if asker is None else asker] = 7
                self.check(343 * best_choice(seats, FARES, askers), seats, FARES, turns)

    def test_small_sales_against_all_lists_of_askers(self):
        for fares, turns, last, ends in small_sales():
            for seats in range(len(turns) + 2):
                self.check(summed_foresight(seats, fares, turns), seats, fares, turns)

    def test_it_is_the_sum_of_what_the_askers_pay(self):
        for fares, turns, last, ends in small_sales():
            for seats in range(4):
                together = 0
                for askers in all_askers(fares, turns):
                    together += weight_of(turns, askers) * known_best(seats, fares, askers)
                self.check(together, seats, fares, turns)

    def test_fares_alike_and_classes_in_any_order(self):
        rows = [[1, 2, 3, 4], [5, 0, 1, 2], [0, 7, 0, 1]]
        for fares in ([7, 7, 7], [7, 2, 7], [2, 7, 7], [1, 1, 9]):
            for seats in range(5):
                told = summed_foresight(seats, fares, rows)
                for order in itertools.permutations(range(3)):
                    turned = [[row[place] for place in order] + [row[3]] for row in rows]
                    self.check(told, seats, [fares[place] for place in order], turned)

    def test_the_order_of_the_turns_does_not_matter(self):
        rows = [[1, 2, 3, 4], [5, 0, 1, 2], [0, 7, 0, 1]]
        for seats in range(5):
            for turns in itertools.permutations(rows):
                self.check(summed_foresight(seats, FARES, rows), seats, FARES, list(turns))

    def test_eight_turns_six_classes_within_seconds(self):
        chance = random.Random(12)
        begun = time.perf_counter()
        for seats in range(11):
            fares, turns, last, ends = random_sale(chance, 6, 8, seats, 0)
            foresight_of(seats, fares, turns)
            foresight_of(seats, [10 ** 6] * 6, [[1000] * 7] * 8)
        self.assertLess(time.perf_counter() - begun, 5)

    def test_eight_turns_six_classes_by_the_numbers_of_each(self):
        chance = random.Random(13)
        for seats in (0, 1, 3, 7, 8, 10):
            fares, turns, last, ends = random_sale(chance, 6, 8, seats, 0)
            self.check(counted_foresight(seats, fares, turns), seats, fares, turns)
        self.check(8 * 6 * 1000 * 7000 ** 7 * 10 ** 6, 10, [10 ** 6] * 6, [[1000] * 7] * 8)

    def test_somewhat_beyond_the_bounds(self):
        turns = [[2, 1, 3]] * 11
        for seats in (5, 11, 13):
            self.check(counted_foresight(seats, [5, 2 * 10 ** 6], turns), seats, [5, 2 * 10 ** 6], turns)

    def test_the_first_worth_is_no_greater(self):
        for fares, turns, last, ends in itertools.chain(small_sales(), great_sales()):
            for seats in (0, 1, 2, 5, 10):
                with self.subTest(seats=seats, fares=fares, turns=turns):
                    worth = worths_of(fares, turns, 1, [0] * (seats + 1))[0][seats]
                    self.assertLessEqual(worth, foresight_of(seats, fares, turns))

    def test_it_can_be_greater_and_just_as_great(self):
        # With a seat for each turn there is nothing to foresee; with one seat the dear asker may come later.
        turns = [[1, 3, 2], [2, 1, 1]]
        self.assertEqual(worths_of([300, 120], turns, 1, [0, 0, 0])[0][2], foresight_of(2, [300, 120], turns))
        self.assertEqual(worths_of([300, 120], turns, 1, [0, 0])[0][1], 4800)
        self.assertEqual(foresight_of(1, [300, 120], turns), 5160)


if __name__ == "__main__":
    unittest.main()
