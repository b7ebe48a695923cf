"""What the document promises over the whole program."""

import copy
import itertools
import unittest

from latefare.desk import Desk
from latefare.foresight import foresight_of, known_best, weight_of
from latefare.offices import Office
from latefare.papers import first_wrong
from latefare.rules import steps_fall
from latefare.shows import ends_of, last_scale, shows_of
from latefare.ways import best_way, way_worths
from latefare.worths import worths_of
from samples import all_askers, asked_ends, asked_shows, asked_worths, great_offices, rows_of, small_offices, some_ways


def sale_of(made):
    seats, fares, turns, rule = made
    return fares, turns, last_scale(seats, rule), ends_of(seats, rule)


def sold_out(made, askers):
    office = Office(*made)
    for asker in askers:
        office.asked(asker)
    return office


def summed_coins(made):
    """What an office has in the end, over all askers and all numbers of the sold that come, by their weights."""
    seats, fares, turns, rule = made
    together = 0
    for askers in all_askers(fares, turns):
        left = sold_out(made, askers).left()
        shows = asked_shows(seats - left, rule[1], rule[2])
        for number, weight in enumerate(shows):
            coins = sold_out(made, askers).came(number)
            # A seat left has nobody to come or stay; its chances bring all sums to one scale.
            together += weight_of(turns, askers) * weight * coins * rule[2] ** left
    return together


class WholeTest(unittest.TestCase):
    def test_the_office_comes_to_the_first_worth(self):
        for made in small_offices():
            seats, fares, turns, rule = made
            asked = asked_worths(fares, turns, rule[2] ** seats, asked_ends(seats, rule))
            with self.subTest(made=made):
                told = summed_coins(made)
                self.assertEqual(told, asked[0][seats])
                self.assertEqual(told, worths_of(*sale_of(made))[0][seats])
                self.assertEqual(told, way_worths(*sale_of(made), best_way(*sale_of(made)))[0][seats])

    def test_all_weights_come_to_the_first_scale(self):
        for made in small_offices():
            seats, fares, turns, rule = made
            together = sum(weight_of(turns, askers) for askers in all_askers(fares, turns))
            desk = Desk()
            for row in rows_of(*made):
                desk.say(row)
            worth = worths_of(*sale_of(made))[0][seats]
            self.assertEqual(desk.say("worth"), f"{worth} of {together * sum(shows_of(seats, rule[1], rule[2]))}")

    def test_no_way_is_worth_more_anywhere(self):
        for made in itertools.chain(small_offices(), great_offices()):
            sale = sale_of(made)
            table = worths_of(*sale)
            self.assertIsNone(first_wrong(*sale, table))
            for way in some_ways(sale, 20):
                for best, other in zip(table, way_worths(*sale, way)):
                    self.assertTrue(all(worth <= most for worth, most in zip(other, best)))

    def test_one_seat_more_is_worth_ever_less_and_less_with_fewer_turns(self):
        for made in itertools.chain(small_offices(), great_offices()):
            sale = sale_of(made)
            table = worths_of(*sale)
            self.assertTrue(all(steps_fall(numbers) for numbers in table))
            for ahead, behind, row in zip(table, table[1:], made[2]):
                for s in range(1, len(ahead)):
                    step = sum(row) * (behind[s] - behind[s - 1])
                    self.assertGreaterEqual(ahead[s] - ahead[s - 1], step)

    def test_one_least_fare_tells_whom_to_take(self):
        for made in itertools.chain(small_offices(), great_offices()):
            askers = list(range(len(made[1]))) + [None]
            for first, second in itertools.product(askers, repeat=2):
                office = Office(*made)
                for asker in [first, second][:len(made[2])]:
                    taken = office.asked(asker)
                    turn, seats, least, fare = office.paper()
                    self.assertIs(taken, seats > 0 and fare is not None and fare >= least)

    def test_nobody_gets_more_than_the_foresight(self):
        for seats, fares, turns, rule in small_offices():
            made = (seats, fares, turns, (10, 1, 1, 0))
            together = 0
            for askers in all_askers(fares, turns):
                coins = sold_out(made, askers).came(0)
                self.assertLessEqual(coins, known_best(seats, fares, askers))
                together += weight_of(turns, askers) * coins
            self.assertEqual(together, worths_of(*sale_of(made))[0][seats])
            self.assertLessEqual(together, foresight_of(seats, fares, turns))

    def test_what_is_asked_in_between_changes_nothing(self):
        for made in small_offices():
            before = copy.deepcopy(made)
            office = Office(*made)
            told = worths_of(*sale_of(made))
            for asker in [0] * len(made[2]):
                office.asked(asker)
                self.assertEqual(worths_of(*sale_of(made)), told)
            self.assertEqual(made, before)


if __name__ == "__main__":
    unittest.main()
