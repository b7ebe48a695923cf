import unittest

from latefare.shows import ends_of, is_rule, last_scale, shows_of
from samples import asked_ends, asked_shows

SIXTY = 10 ** 60 - 1
LEAST_SIXTY = 10 ** 59
CHANCES = ((0, 1), (1, 1), (0, 1000), (1000, 1000), (1, 2), (1, 1000), (999, 1000), (3, 7), (500, 1000))


class IsRuleTest(unittest.TestCase):
    def check(self, told, rules):
        for rule in rules:
            with self.subTest(rule=rule):
                self.assertIs(is_rule(rule), told)

    def test_room(self):
        self.check(True, [(room, 3, 5, 7) for room in range(0, 11)])
        self.check(False, [(room, 3, 5, 7) for room in (-1, 11, SIXTY, -SIXTY, LEAST_SIXTY, -LEAST_SIXTY)])

    def test_came(self):
        self.check(True, [(4, came, 5, 7) for came in range(0, 6)])
        self.check(False, [(4, came, 5, 7) for came in (-1, 6, 1000, SIXTY, -SIXTY, LEAST_SIXTY, -LEAST_SIXTY)])
        self.check(True, [(4, 1000, 1000, 7), (4, 1, 1, 7), (4, 0, 1, 7)])
        self.check(False, [(4, 1001, 1000, 7), (4, 2, 1, 7)])

    def test_of(self):
        self.check(True, [(4, 1, of, 7) for of in (1, 2, 999, 1000)])
        self.check(True, [(4, 0, of, 7) for of in (1, 2, 999, 1000)])
        self.check(False, [(4, 0, of, 7) for of in (0, -1, 1001, SIXTY, -SIXTY, LEAST_SIXTY, -LEAST_SIXTY)])
        self.check(False, [(4, 1, of, 7) for of in (0, -1, 1001, SIXTY, -SIXTY)])
        self.check(False, [(4, -1, -1, 7), (4, 1001, 1001, 7), (4, SIXTY, SIXTY, 7), (4, -SIXTY, -SIXTY, 7)])

    def test_due(self):
        self.check(True, [(4, 3, 5, due) for due in (0, 1, 999999, 10 ** 6)])
        self.check(False, [(4, 3, 5, due) for due in (-1, 10 ** 6 + 1, SIXTY, -SIXTY, LEAST_SIXTY, -LEAST_SIXTY)])

    def test_all_at_the_bounds(self):
        self.check(True, [(0, 0, 1, 0), (10, 1000, 1000, 10 ** 6), (10, 0, 1000, 10 ** 6)])

    def test_truths_are_no_whole_numbers(self):
        self.check(False, [(True, 1, 2, 7), (4, False, 2, 7), (4, 1, True, 7), (4, 1, 2, False)])


class ShowsTest(unittest.TestCase):
    def test_written_out(self):
        self.assertEqual(shows_of(0, 3, 7), [1])
        self.assertEqual(shows_of(1, 3, 7), [4, 3])
        self.assertEqual(shows_of(2, 3, 7), [16, 24, 9])
        self.assertEqual(shows_of(3, 1, 3), [8, 12, 6, 1])

    def test_nobody_comes(self):
        self.assertEqual(shows_of(3, 0, 5), [125, 0, 0, 0])
        self.assertEqual(shows_of(10, 0, 1000), [1000 ** 10] + [0] * 10)

    def test_all_come(self):
        self.assertEqual(shows_of(3, 5, 5), [0, 0, 0, 125])
        self.assertEqual(shows_of(10, 1000, 1000), [0] * 10 + [1000 ** 10])

    def test_every_number_of_sold_seats(self):
        for sold in range(11):
            for came, of in CHANCES:
                with self.subTest(sold=sold, came=came, of=of):
                    shows = shows_of(sold, came, of)
                    self.assertEqual(shows, asked_shows(sold, came, of))
                    self.assertEqual(sum(shows), of ** sold)
                    self.assertEqual(len(shows), sold + 1)

    def test_the_list_given_is_the_askers_own(self):
        for sold in (0, 1, 2, 10):
            given = shows_of(sold, 3, 7)
            given[0] = -1
            given.append(5)
            self.assertEqual(shows_of(sold, 3, 7), asked_shows(sold, 3, 7))


class EndsTest(unittest.TestCase):
    def test_written_out(self):
        self.assertEqual(ends_of(0, (0, 1, 2, 7)), [0])
        self.assertEqual(ends_of(1, (0, 1, 2, 7)), [-7, 0])
        # Two sold: one comes with weight 2, both with weight 1; one sold: it comes with weight 1, times 2.
        self.assertEqual(ends_of(2, (0, 1, 2, 7)), [-28, -14, 0])
        self.assertEqual(ends_of(2, (1, 1, 2, 7)), [-7, 0, 0])
        self.assertEqual(ends_of(3, (1, 2, 3, 10)), [-10 * (12 * 1 + 8 * 2), -10 * 4 * 3, 0, 0])

    def test_every_number_of_seats_and_room(self):
        for seats in (0, 1, 2, 5, 10):
            for room in range(11):
                for came, of in CHANCES:
                    for due in (0, 1, 10 ** 6):
                        rule = (room, came, of, due)
                        with self.subTest(seats=seats, rule=rule):
                            ends = ends_of(seats, rule)
                            self.assertEqual(ends, asked_ends(seats, rule))
                            self.assertEqual(ends[seats], 0)

    def test_all_come_and_none_has_room(self):
        self.assertEqual(ends_of(10, (0, 1, 1, 10 ** 6)), [-(10 - left) * 10 ** 6 for left in range(11)])

    def test_room_for_all_or_nothing_due(self):
        self.assertEqual(ends_of(10, (10, 999, 1000, 10 ** 6)), [0] * 11)
        self.assertEqual(ends_of(10, (0, 999, 1000, 0)), [0] * 11)
        self.assertEqual(ends_of(10, (0, 0, 1000, 10 ** 6)), [0] * 11)

    def test_one_above_the_room(self):
        self.assertEqual(ends_of(10, (9, 1, 2, 3)), [-3] + [0] * 10)

    def test_the_list_given_is_the_askers_own(self):
        for seats in (0, 1, 3):
            rule = (0, 1, 2, 7)
            given = ends_of(seats, rule)
            given[0] = 1
            given.append(5)
            self.assertEqual(ends_of(seats, rule), asked_ends(seats, rule))


class LastScaleTest(unittest.TestCase):
    def test_last_scale(self):
        for seats in range(11):
            for of in (1, 2, 7, 1000):
                for room, came, due in ((0, 0, 0), (10, 1, 10 ** 6)):
                    with self.subTest(seats=seats, of=of):
                        self.assertEqual(last_scale(seats, (room, came, of, due)), of ** seats)

    def test_no_seats(self):
        self.assertEqual(last_scale(0, (3, 500, 1000, 7)), 1)

    def test_it_is_the_sum_of_the_shows_of_all_seats(self):
        for seats in (0, 1, 10):
            self.assertEqual(last_scale(seats, (3, 2, 9, 7)), sum(shows_of(seats, 2, 9)))


if __name__ == "__main__":
    unittest.main()
