"""The office: told turn by turn who asks, it takes whom it is worth to take, and keeps the coins."""

from latefare.errors import Done, Early, NoClass, NoSale, Over, TooMany
from latefare.rules import is_taken, least_fare
from latefare.sales import is_sale, scales_of
from latefare.shows import ends_of, is_rule, last_scale
from latefare.wholes import is_within
from latefare.worths import worths_of


class Office:
    def __init__(self, seats, fares, turns, rule):
        if not is_sale(seats, fares, turns):
            raise NoSale("these seats, fares and turns are no sale")
        if not is_rule(rule):
            raise NoSale("this rule is none")
        last = last_scale(seats, rule)
        self.seats = seats
        # The asker may change the lists handed in later on; the office keeps its own.
        self.fares = list(fares)
        self.rule = rule
        self.scales = scales_of(turns, last)
        self.table = worths_of(fares, turns, last, ends_of(seats, rule))
        self.told = 0
        self.sold = 0
        self.paid = 0
        self.dues = None
        self.latest = None

    def turn(self):
        return self.told

    def left(self):
        return self.seats - self.sold

    def coins(self):
        return self.paid if self.dues is None else self.paid - self.dues

    def worth(self):
        # The worth and the scale of the beginning, whatever was told since.
        return (self.table[0][self.seats], self.scales[0])

    def asked(self, asker):
        if self.is_over():
            raise Over("all turns are over")
        fare = self.fare_of(asker)
        taken = self.takes(fare)
        self.latest = (self.told, self.left(), self.least(), fare)
        self.told = self.told + 1
        if taken:
            self.sold = self.sold + 1
            self.paid = self.paid + fare
        return taken

    def is_over(self):
        # There is one scale more than there are turns.
        return self.told == len(self.scales) - 1

    def fare_of(self, asker):
        if asker is None:
            return None
        # A number below nought would be a place counted from the end.
        if not is_within(asker, 0, len(self.fares) - 1):
            raise NoClass("the asker is none of the classes")
        return self.fares[asker]

    def takes(self, fare):
        behind = self.told + 1
        return fare is not None and is_taken(fare, self.scales[behind], self.table[behind], self.left())

    def least(self):
        if self.left() == 0:
            return None
        behind = self.told + 1
        return least_fare(self.scales[behind], self.table[behind], self.left())

    def paper(self):
        if self.latest is None:
            raise Early("no asker was told yet")
        return self.latest

    def came(self, number):
        if not self.is_over():
            raise Early("some turns are to come")
        if self.dues is not None:
            raise Done("it was told already who came")
        if not is_within(number, 0, self.sold):
            raise TooMany("so many of the sold can't have come")
        self.dues = self.rule[3] * max(number - self.rule[0], 0)
        return self.coins()
