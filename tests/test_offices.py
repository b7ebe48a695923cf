import copy
import itertools
import math
import random
import unittest

from latefare.errors import Done, Early, FareError, NoClass, NoSale, Over, TooMany
from latefare.offices import Office
from latefare.rules import is_taken
from latefare.sales import scales_of
from latefare.shows import ends_of, last_scale
from latefare.worths import worths_of
from samples import are_all_new, asked_ends, great_offices, mean_worths, small_offices, spoil

SIXTY = 10 ** 60 - 1
FORTY = 10 ** 39
# The last scale is 100, the ends are -40500, 0, 0; the worths of turn 1 are -162000, 0, 72000, in scale 400.
MADE = (2, [300, 120], [[1, 3, 2], [2, 1, 1]], (1, 9, 10, 500))
# No chance is told for those who come, so nothing holds the office back; yet any number of them may come.
SURE = (3, [10, 20], [[1, 1, 1]] * 4, (1, 0, 5, 100))
NO_CLASSES = (-1, 2, -2, 3, 10, FORTY, -FORTY, 10 ** 40 - 1, 1 - 10 ** 40)


def told_by(office):
    """All that an office tells without being changed."""
    return (office.turn(), office.left(), office.coins(), paper_of(office))


def paper_of(office):
    try:
        return office.paper()
    except Early:
        return Early


def after(made, askers):
    office = Office(*copy.deepcopy(made))
    for asker in askers:
        office.asked(asker)
    return office


class Model:
    """What the document asks of an office, by mean coins as fractions."""

    def __init__(self, seats, fares, turns, rule):
        self.fares, self.turns, self.rule, self.seats = fares, turns, rule, seats
        self.means = mean_worths(fares, turns, rule[2] ** seats, asked_ends(seats, rule))
        self.papers, self.taken, self.due = [], [], 0

    def asked(self, asker):
        left = self.seats - len(self.taken)
        behind = self.means[len(self.papers) + 1]
        step = behind[left] - behind[left - 1] if left else None
        fare = None if asker is None else self.fares[asker]
        self.papers.append((len(self.papers), left, math.ceil(step) if left else None, fare))
        if fare is None or not left or fare < step:
            return False
        self.taken.append(fare)
        return True

    def came(self, number):
        self.due = sum(self.rule[3] for one in range(self.rule[0], number))
        return sum(self.taken) - self.due

    def told(self):
        paper = self.papers[-1] if self.papers else Early
        return (len(self.papers), self.seats - len(self.taken), sum(self.taken) - self.due, paper)


class OfficeTest(unittest.TestCase):
    def refuse(self, error, office, act):
        """The refusal is just this one, and changes nothing."""
        before = told_by(office)
        with self.assertRaises(FareError) as raised:
            act()
        self.assertIs(type(raised.exception), error)
        self.assertEqual(told_by(office), before)

    def refuse_asked(self, error, office, askers):
        for asker in askers:
            with self.subTest(error=error, asker=asker):
                self.refuse(error, office, lambda: office.asked(asker))

    def refuse_came(self, error, office, numbers):
        for number in numbers:
            with self.subTest(error=error, number=number):
                self.refuse(error, office, lambda: office.came(number))


class MakingTest(OfficeTest):
    def check(self, accepted, seats, fares, turns, rule):
        before = copy.deepcopy((seats, fares, turns, rule))
        with self.subTest(seats=seats, fares=fares, turns=turns, rule=rule):
            if accepted:
                self.assertEqual(told_by(Office(seats, fares, turns, rule)), (0, seats, 0, Early))
            else:
                with self.assertRaises(FareError) as raised:
                    Office(seats, fares, turns, rule)
                self.assertIs(type(raised.exception), NoSale)
            self.assertEqual((seats, fares, turns, rule), before)

    def test_seats(self):
        for seats in range(11):
            self.check(True, seats, *MADE[1:])
        for seats in (-1, 11, SIXTY, -SIXTY):
            self.check(False, seats, *MADE[1:])

    def test_fares(self):
        for fare in (1, 2, 10 ** 6 - 1, 10 ** 6):
            self.check(True, 2, [fare, 5], [[1, 1, 1]], MADE[3])
            self.check(True, 2, [5, fare], [], MADE[3])
        for fare in (0, -1, 10 ** 6 + 1, SIXTY, -SIXTY):
            self.check(False, 2, [fare, 5], [[1, 1, 1]], MADE[3])
            self.check(False, 2, [5, fare], [], MADE[3])

    def test_number_of_classes(self):
        for classes in range(1, 7):
            self.check(True, 2, [5] * classes, [[1] * (classes + 1)], MADE[3])
        for classes in (0, 7, 40):
            self.check(False, 2, [5] * classes, [[1] * (classes + 1)], MADE[3])
            self.check(False, 2, [5] * classes, [], MADE[3])

    def test_number_of_turns(self):
        for turns in range(9):
            self.check(True, 2, [5], [[1, 1]] * turns, MADE[3])
        for turns in (9, 10, 40):
            self.check(False, 2, [5], [[1, 1]] * turns, MADE[3])

    def test_rows(self):
        for row in ([0, 0, 1], [1, 0, 0], [1000] * 3, [0, 1000, 0]):
            self.check(True, 2, [5, 6], [[1, 1, 1], row], MADE[3])
        for row in ([0, 0, 0], [-1, 1, 1], [1, 1001, 1], [1, 1, -1], [1, 1], [1, 1, 1, 1], [], [SIXTY, 1, 1]):
            self.check(False, 2, [5, 6], [[1, 1, 1], row], MADE[3])
            self.check(False, 2, [5, 6], [row, [1, 1, 1]], MADE[3])

    def test_rules(self):
        for rule in ((0, 0, 1, 0), (10, 1000, 1000, 10 ** 6), (1, 1, 1, 1), (10, 0, 1000, 0), (0, 1, 2, 3)):
            self.check(True, *MADE[:3], rule)
        for place, numbers in enumerate(((-1, 11), (-1, 11), (0, 8, 1001, -1), (-1, 10 ** 6 + 1))):
            for number in numbers + (SIXTY, -SIXTY):
                rule = (1, 9, 10, 500)
                self.check(False, *MADE[:3], rule[:place] + (number,) + rule[place + 1:])

    def test_neither_a_sale_nor_a_rule(self):
        self.check(False, 11, [], [[0, 0]], (11, 3, 0, -1))


class AskedTest(OfficeTest):
    def check(self, made, askers, told):
        office = Office(*made)
        for asker, answer in zip(askers, told):
            self.assertIs(office.asked(asker), answer)
        return office

    def test_written_out(self):
        # At turn 0 a seat is worth 72000 of 400, which is 180; at turn 1 the first of two is worth nothing.
        self.check(MADE, [0, 0], [True, False])
        self.check(MADE, [0, None], [True, False])
        self.check(MADE, [1, 0], [False, True])
        self.check(MADE, [1, 1], [False, True])
        self.check(MADE, [None, 1], [False, True])
        self.check(MADE, [None, None], [False, False])

    def test_what_turn_left_and_coins_tell(self):
        office = Office(*MADE)
        self.assertEqual(told_by(office), (0, 2, 0, Early))
        office.asked(1)
        self.assertEqual(told_by(office), (1, 2, 0, (0, 2, 180, 120)))
        office.asked(1)
        self.assertEqual(told_by(office), (2, 1, 120, (1, 2, 0, 120)))

    def test_a_fare_just_as_much_and_one_less(self):
        # One seat, and class 0 comes for sure at the last turn.
        for fare, told in ((100, True), (99, False), (101, True)):
            made = (1, [100, fare], [[1, 1, 1], [5, 0, 0]], (1, 1, 1, 0))
            office = self.check(made, [1], [told])
            self.assertEqual(office.paper(), (0, 1, 100, fare))

    def test_a_due_just_as_much_and_one_more(self):
        for due, told in ((100, True), (101, False), (99, True)):
            office = self.check((1, [100], [[1, 1]], (0, 1, 1, due)), [0], [told])
            self.assertEqual(office.paper(), (0, 1, due, 100))

    def test_a_class_of_weight_0_may_ask(self):
        made = (2, [10, 20], [[1, 0, 1], [1, 0, 1], [0, 0, 1]], (2, 1, 1, 0))
        office = self.check(made, [1, None, 0], [True, False, True])
        self.assertEqual(told_by(office), (3, 0, 30, (2, 1, 0, 10)))

    def test_nobody_of_weight_0_may_come(self):
        office = self.check((1, [10], [[1, 0]], (1, 1, 1, 0)), [None], [False])
        self.assertEqual(told_by(office), (1, 1, 0, (0, 1, 0, None)))

    def test_with_no_seats_left_nobody_is_taken(self):
        office = self.check((2, [9, 10 ** 6], [[1, 1, 1]] * 8, (10, 1, 1, 0)), [1] * 8, [True] * 2 + [False] * 6)
        self.assertEqual(told_by(office), (8, 0, 2 * 10 ** 6, (7, 0, None, 10 ** 6)))
        office = self.check((0, [9], [[1, 1]] * 3, (10, 1, 1, 0)), [0, None, 0], [False] * 3)
        self.assertEqual(told_by(office), (3, 0, 0, (2, 0, None, 9)))

    def test_taken_just_where_the_rule_of_taking_tells_it(self):
        chance = random.Random(14)
        for made in itertools.chain(small_offices(), great_offices()):
            seats, fares, turns, rule = made
            last = last_scale(seats, rule)
            scales = scales_of(turns, last)
            table = worths_of(fares, turns, last, ends_of(seats, rule))
            for go in range(10):
                office = Office(*made)
                for t in range(len(turns)):
                    asker = chance.choice(list(range(len(fares))) + [None])
                    left = office.left()
                    told = asker is not None and is_taken(fares[asker], scales[t + 1], table[t + 1], left)
                    self.assertIs(office.asked(asker), told)
                    self.assertEqual(office.left(), left - told)

    def test_whole_sales_against_mean_coins(self):
        chance = random.Random(15)
        for made in itertools.chain(small_offices(), great_offices()):
            for go in range(10):
                office, model = Office(*made), Model(*made)
                with self.subTest(made=made):
                    for turn in made[2]:
                        asker = chance.choice(list(range(len(made[1]))) + [None])
                        self.assertIs(office.asked(asker), model.asked(asker))
                        self.assertEqual(told_by(office), model.told())
                    number = chance.randint(0, len(model.taken))
                    self.assertEqual(office.came(number), model.came(number))
                    self.assertEqual(told_by(office), model.told())


class CameTest(OfficeTest):
    def check(self, made, askers, numbers):
        """For each number that came, the coins that are due to be there then."""
        for number, told in numbers:
            office = after(made, askers)
            turn, left, coins, paper = told_by(office)
            with self.subTest(made=made, number=number):
                self.assertEqual(office.came(number), told)
                self.assertEqual(told_by(office), (turn, left, told, paper))

    def test_none_some_and_all_below_at_and_above_the_room(self):
        self.check(SURE, [0, 1, 1, None], [(0, 50), (1, 50), (2, -50), (3, -150)])
        self.check(SURE, [0, 1, None, None], [(0, 30), (1, 30), (2, -70)])
        self.check(SURE, [None, 1, None, None], [(0, 20), (1, 20)])
        self.check(SURE, [None] * 4, [(0, 0)])

    def test_room_for_all(self):
        made = (3, [10, 20], [[1, 1, 1]] * 4, (3, 0, 5, 100))
        self.check(made, [0, 1, 1, None], [(number, 50) for number in range(4)])

    def test_no_room_at_all(self):
        made = (3, [10, 20], [[1, 1, 1]] * 4, (0, 0, 5, 7))
        self.check(made, [0, 1, 1, None], [(0, 50), (1, 43), (2, 36), (3, 29)])

    def test_any_number_whatever_the_chances(self):
        # All come for sure by the rule, yet none may come; none by the rule, yet all may.
        self.check((2, [9], [[1, 1]] * 2, (1, 1, 1, 5)), [0, 0], [(0, 18), (1, 18), (2, 13)])
        self.check((2, [9], [[1, 1]] * 2, (1, 0, 1, 50)), [0, 0], [(0, 18), (1, 18), (2, -32)])

    def test_coins_to_nought_and_below(self):
        self.check((1, [9], [[1, 1]], (0, 0, 1, 9)), [0], [(0, 9), (1, 0)])
        self.check((1, [9], [[1, 1]], (0, 0, 1, 10)), [0], [(0, 9), (1, -1)])
        made = (10, [1], [[1, 1]] * 8, (0, 0, 1000, 10 ** 6))
        self.check(made, [0] * 8, [(number, 8 - number * 10 ** 6) for number in range(9)])

    def test_nothing_due(self):
        self.check((2, [9], [[1, 1]] * 2, (0, 1, 1, 0)), [0, 0], [(0, 18), (1, 18), (2, 18)])

    def test_no_turns(self):
        for seats in (0, 1, 10):
            office = Office(seats, [5], [], (0, 1, 1, 7))
            self.assertEqual(told_by(office), (0, seats, 0, Early))
            self.refuse_asked(Over, office, (0, None))
            self.refuse_came(TooMany, office, (1, -1))
            self.assertEqual(office.came(0), 0)
            self.assertEqual(told_by(office), (0, seats, 0, Early))
            self.refuse_came(Done, office, (0, 1))
            self.refuse_asked(Over, office, (0, None))


class RefusedTest(OfficeTest):
    def test_over(self):
        office = after(SURE, [0, 1, None, 1])
        self.refuse_asked(Over, office, (0, 1, None) + NO_CLASSES)
        office.came(3)
        self.refuse_asked(Over, office, (0, 1, None) + NO_CLASSES)

    def test_early_for_its_paper(self):
        office = Office(*SURE)
        self.refuse(Early, office, office.paper)
        self.refuse_asked(NoClass, office, NO_CLASSES)
        self.refuse(Early, office, office.paper)

    def test_early_for_who_came(self):
        for askers in ([], [0], [0, 1], [0, None, 1], [None] * 3):
            office = after(SURE, askers)
            self.refuse_came(Early, office, (0, 1, 3, 4, -1, FORTY, -FORTY))

    def test_done(self):
        for first in range(4):
            office = after(SURE, [0, 1, None, 1])
            office.came(first)
            self.refuse_came(Done, office, (0, 1, 3, 4, -1, FORTY, -FORTY))

    def test_done_where_nothing_was_due(self):
        office = after(SURE, [None] * 4)
        self.assertEqual(office.came(0), 0)
        self.refuse_came(Done, office, (0, 1, -1))

    def test_no_class(self):
        for askers in ([], [0], [0, 1, 1], [None] * 3):
            self.refuse_asked(NoClass, after(SURE, askers), NO_CLASSES)
        for classes in range(1, 7):
            office = Office(2, [5] * classes, [[1] * (classes + 1)] * 8, (1, 1, 2, 3))
            self.refuse_asked(NoClass, office, (classes, classes + 1, -1, -classes, -classes - 1))
            for asker in range(classes):
                office.asked(asker)
            self.assertEqual(office.turn(), classes)

    def test_too_many(self):
        for askers, sold in (([None] * 4, 0), ([None, 0, None, None], 1), ([0, 1, None, 1], 3), ([1] * 4, 3)):
            office = after(SURE, askers)
            self.assertEqual(office.left(), 3 - sold)
            self.refuse_came(TooMany, office, (-1, sold + 1, sold + 2, 11, FORTY, -FORTY, 10 ** 40 - 1))
            office.came(sold)

    def test_what_is_refused_changes_nothing_of_what_is_told_later(self):
        chance = random.Random(16)
        for made in itertools.chain(small_offices(), great_offices()):
            tried, spared = Office(*made), Office(*made)
            askers = [chance.choice(list(range(len(made[1]))) + [None]) for turn in made[2]]
            for asker in askers:
                self.refuse_asked(NoClass, tried, (-1, len(made[1]), FORTY))
                self.refuse_came(Early, tried, (0, -1, FORTY))
                self.assertIs(tried.asked(asker), spared.asked(asker))
                self.assertEqual(told_by(tried), told_by(spared))
            sold = made[0] - spared.left()
            self.refuse_asked(Over, tried, (0, None, -1))
            self.refuse_came(TooMany, tried, (sold + 1, -1))
            self.assertEqual(tried.came(sold), spared.came(sold))
            self.refuse_came(Done, tried, (0, sold + 1))
            self.refuse_asked(Over, tried, (0, None, -1))
            self.assertEqual(told_by(tried), told_by(spared))


class PaperTest(OfficeTest):
    def check(self, made, askers, told):
        office = after(made, askers)
        with self.subTest(made=made, askers=askers):
            self.assertEqual(office.paper(), told)
            self.assertIs(type(office.paper()), tuple)
        return office

    def test_a_taken_one_one_sent_away_and_nobody(self):
        self.check(MADE, [0], (0, 2, 180, 300))
        self.check(MADE, [1], (0, 2, 180, 120))
        self.check(MADE, [None], (0, 2, 180, None))
        # With one seat left the due of 40500 of 100 stands against its fare.
        self.check(MADE, [0, 0], (1, 1, 405, 300))
        self.check(MADE, [0, 1], (1, 1, 405, 120))
        self.check(MADE, [0, None], (1, 1, 405, None))
        self.check(MADE, [None, 0], (1, 2, 0, 300))

    def test_the_least_fare_is_rounded_up(self):
        # The seat kept is worth 10 of 3, or 11 of 3; of 12 of 3 nothing is rounded.
        for fare, told in ((10, 4), (11, 4), (12, 4), (13, 5)):
            self.check((1, [fare], [[1, 1], [1, 2]], (1, 1, 1, 0)), [None], (0, 1, told, None))

    def test_no_seats_left(self):
        made = (1, [10, 20], [[1, 1, 1]] * 3, (1, 1, 1, 0))
        self.check(made, [1, 0], (1, 0, None, 10))
        self.check(made, [1, None], (1, 0, None, None))
        self.check((0,) + made[1:], [1], (0, 0, None, 20))
        self.check((0,) + made[1:], [None], (0, 0, None, None))

    def test_behind_the_last_turn_and_behind_came(self):
        for askers, told in (([0, 1, None, 1], (3, 1, 0, 20)), ([0, 1, 1, None], (3, 0, None, None))):
            office = self.check(SURE, askers, told)
            self.refuse_asked(Over, office, (0, None))
            self.assertEqual(office.paper(), told)
            office.came(2)
            self.assertEqual(office.paper(), told)

    def test_it_is_that_of_the_last_asker_told_whatever_was_refused(self):
        # With three turns to come three seats are worth 270 of 9, two of them 230; then 180 and 120.
        office = self.check(SURE, [0], (0, 3, 5, 10))
        self.refuse_asked(NoClass, office, (2, -1))
        self.assertEqual(office.paper(), (0, 3, 5, 10))
        office.asked(None)
        self.assertEqual(office.paper(), (1, 2, 7, None))

    def test_a_least_fare_below_nought(self):
        # Dues never fall with the seats sold, so no rule leads there; the table is put in by hand.
        for number, told in ((-1, 0), (-99, 0), (-100, -1), (-101, -1), (-250, -2)):
            office = Office(1, [5], [[1, 1]], (1, 1, 100, 0))
            office.table[1] = [0, number]
            self.assertIs(office.asked(0), True)
            self.assertEqual(office.paper(), (0, 1, told, 5))

    def test_no_rule_makes_a_least_fare_below_nought(self):
        for made in itertools.chain(small_offices(), great_offices()):
            office = Office(*made)
            for turn in made[2]:
                office.asked(0)
                least = office.paper()[2]
                self.assertTrue(least is None or least >= 0)


class OwnTest(OfficeTest):
    def run_through(self, office, askers, number):
        told = []
        for asker in askers:
            told.append((office.asked(asker), told_by(office)))
        return told + [office.came(number), told_by(office)]

    def test_changing_what_was_handed_in_changes_nothing(self):
        chance = random.Random(17)
        for made in itertools.chain(small_offices(), great_offices()):
            askers = [chance.choice(list(range(len(made[1]))) + [None]) for turn in made[2]]
            told = self.run_through(Office(*copy.deepcopy(made)), askers, 0)
            handed_in = copy.deepcopy(made)
            office = Office(*handed_in)
            for part in (handed_in[1], handed_in[2]):
                spoil(part)
            with self.subTest(made=made):
                self.assertEqual(self.run_through(office, askers, 0), told)

    def test_changing_it_between_the_turns_changes_nothing(self):
        seats, fares, turns, rule = copy.deepcopy(MADE)
        office = Office(seats, fares, turns, rule)
        office.asked(1)
        fares[0] = 1
        fares.append(9)
        turns[1][0] = 1000
        turns.append([1, 1, 1])
        self.assertEqual(told_by(office), (1, 2, 0, (0, 2, 180, 120)))
        self.refuse_asked(NoClass, office, (2,))
        self.assertIs(office.asked(0), True)
        self.assertEqual(told_by(office), (2, 1, 300, (1, 2, 0, 300)))
        self.refuse_asked(Over, office, (0,))

    def test_what_is_handed_in_is_not_changed(self):
        for made in itertools.chain(small_offices(), great_offices()):
            before = copy.deepcopy(made)
            self.run_through(Office(*made), [0] * len(made[2]), 0)
            self.assertEqual(made, before)

    def test_it_keeps_no_list_that_was_handed_in(self):
        for made in itertools.chain(small_offices(), great_offices()):
            self.assertTrue(are_all_new(list(vars(Office(*made)).values()), list(made)))

    def test_two_offices_do_not_touch_one_another(self):
        one, other = Office(*SURE), Office(*SURE)
        one.asked(0)
        self.assertEqual(told_by(other), (0, 3, 0, Early))
        other.asked(None)
        other.asked(1)
        self.assertEqual(told_by(one), (1, 2, 10, (0, 3, 5, 10)))
        self.assertEqual(told_by(other), (2, 2, 20, (1, 3, 0, 20)))
        for office in (one, other):
            while office.turn() < 4:
                office.asked(1)
        one.came(3)
        self.assertEqual(other.came(0), other.coins())
        self.assertEqual(one.coins(), 50 - 200)


if __name__ == "__main__":
    unittest.main()
