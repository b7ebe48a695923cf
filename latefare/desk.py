"""The desk: told rows, it gathers a sale, has an office sell it, and answers by texts."""

from latefare.errors import Full, NoClass, NoRow, NoSale, NoTurn, Twice
from latefare.offices import Office
from latefare.sales import MOST_FARES, MOST_TURNS, are_fares, is_row
from latefare.shows import is_rule
from latefare.texts import read_name, read_number, read_words


class Desk:
    def __init__(self):
        self.places = {}
        self.fares = []
        self.rows = []
        self.rule = None
        self.office = None

    def say(self, row):
        words = read_words(row)
        if self.office is None:
            return self.gather(words[0], words[1:])
        return self.serve(words[0], words[1:])

    def gather(self, head, rest):
        if head == "class" and len(rest) == 2:
            self.add_class(read_name(rest[0]), read_number(rest[1]))
        elif head == "turn" and len(rest) > 0:
            self.add_turn(read_numbers(rest))
        elif head == "rule" and len(rest) == 4:
            self.set_rule(tuple(read_numbers(rest)))
        elif head == "open" and len(rest) == 1:
            self.begin(read_number(rest[0]))
        else:
            raise NoRow("no such row goes ahead of open")
        return "ok"

    def add_class(self, name, fare):
        if name in self.places:
            raise Twice(f"the class {name} was told already")
        if len(self.rows) > 0:
            raise NoTurn("a class can't be told behind a turn")
        if len(self.fares) == MOST_FARES:
            raise Full("there is no room for another class")
        if not are_fares([fare]):
            raise NoSale("the fare is out of its bounds")
        self.places[name] = len(self.fares)
        self.fares.append(fare)

    def add_turn(self, row):
        classes = len(self.fares)
        if classes == 0 or len(row) != classes + 1:
            raise NoTurn("a turn has a weight for each class and one more")
        if len(self.rows) == MOST_TURNS:
            raise Full("there is no room for another turn")
        if not is_row(row, classes):
            raise NoSale("the weights are out of their bounds, or all 0")
        self.rows.append(row)

    def set_rule(self, rule):
        if not is_rule(rule):
            raise NoSale("the rule is out of its bounds")
        self.rule = rule

    def begin(self, seats):
        rule = (seats, 1, 1, 0) if self.rule is None else self.rule
        self.office = Office(seats, self.fares, self.rows, rule)

    def serve(self, head, rest):
        if head == "ask" and len(rest) == 1:
            return yes_or_no(self.office.asked(self.place_of(rest[0])))
        if head == "came" and len(rest) == 1:
            return str(self.office.came(read_number(rest[0])))
        if len(rest) > 0:
            raise NoRow("no such row goes behind open")
        return self.tell(head)

    def place_of(self, name):
        if name not in self.places:
            raise NoClass(f"{name!r} is none of the classes")
        return self.places[name]

    def tell(self, head):
        if head == "quiet":
            return yes_or_no(self.office.asked(None))
        if head == "left":
            return str(self.office.left())
        if head == "turns":
            return str(self.office.turn())
        if head == "coins":
            return str(self.office.coins())
        if head == "why":
            return " ".join([dash_or_number(number) for number in self.office.paper()])
        if head == "worth":
            return " of ".join([str(number) for number in self.office.worth()])
        raise NoRow("no such row goes behind open")


def read_numbers(words):
    return [read_number(word) for word in words]


def yes_or_no(taken):
    return "yes" if taken else "no"


def dash_or_number(number):
    return "-" if number is None else str(number)
