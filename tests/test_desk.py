import itertools
import random
import re
import unittest

from latefare.desk import Desk
from latefare.errors import Done, Early, FareError, Full, NoClass, NoRow, NoSale, NoTurn, Over, TooMany, Twice
from latefare.offices import Office
from samples import LETTERS, great_offices, rows_of, small_offices

# Of these a sale is made whose worths stand in tests/test_offices.py, too.
GATHERED = ["class first 300", "class second 120", "turn 1 3 2", "turn 2 1 1", "rule 1 9 10 500"]
AHEAD = ["class third 5", "turn 1 1 1", "rule 1 1 1 1", "open 2"]
BEHIND = ["ask first", "quiet", "came 0", "left", "turns", "coins", "why", "worth"]
# Rows that are refused on that side of open, whatever was told.
NEVER_AHEAD = BEHIND + ["class a 0", "class new 1000001", "class new x", "rule 11 1 1 1", "rule 1 1 1", "open 11", ""]
NEVER_AHEAD += ["turn" + f" {weight}" * many for many in range(9) for weight in (0, 1001)]
NEVER_BEHIND = AHEAD + ["ask third", "came 9999999", "came", "left 1", "why 1", "worth 1", " quiet", "quiet ", "ask"]
SHAPES = {
    False: [r"class [a-z]{1,8} N", r"turn( N)+", r"rule N N N N", r"open N"],
    True: [r"ask [^ ]+", r"quiet", r"came N", r"left", r"turns", r"coins", r"why", r"worth"],
}


def outcome(desk, row):
    """The answer, or the class of the refusal."""
    try:
        return desk.say(row)
    except FareError as refused:
        return type(refused)


class Model:
    """What the document asks of a desk: the shape of a row by patterns, the refusals one behind the other."""

    def __init__(self):
        self.names, self.fares, self.turns, self.rule, self.office = [], [], [], None, None

    def say(self, row):
        shapes = [shape.replace("N", "(0|[1-9][0-9]{0,6})") for shape in SHAPES[self.office is not None]]
        if not any(re.fullmatch(shape, row) for shape in shapes):
            raise NoRow
        head, *rest = row.split(" ")
        for error, holds in self.refusals(head, rest):
            if holds:
                raise error
        return self.gather(head, rest) if self.office is None else self.serve(head, rest)

    def refusals(self, head, rest):
        if head == "class":
            yield Twice, rest[0] in self.names
            yield NoTurn, self.turns
            yield Full, len(self.names) >= 6
            yield NoSale, not 0 < int(rest[1]) <= 10 ** 6
        if head == "turn":
            weights = [int(word) for word in rest]
            yield NoTurn, not self.names
            yield NoTurn, len(weights) - 1 != len(self.names)
            yield Full, len(self.turns) >= 8
            yield NoSale, max(weights) > 1000 or not any(weights)
        if head == "rule":
            room, came, of, due = [int(word) for word in rest]
            yield NoSale, room > 10 or of > 1000 or of == 0 or came > of or due > 10 ** 6
        if head == "open":
            yield NoSale, int(rest[0]) > 10 or not self.names
        if head == "ask":
            yield NoClass, rest[0] not in self.names

    def gather(self, head, rest):
        if head == "class":
            self.names.append(rest[0])
            self.fares.append(int(rest[1]))
        elif head == "open":
            seats = int(rest[0])
            self.office = Office(seats, self.fares, self.turns, self.rule or (seats, 1, 1, 0))
        elif head == "turn":
            self.turns.append([int(word) for word in rest])
        else:
            self.rule = tuple(int(word) for word in rest)
        return "ok"

    def serve(self, head, rest):
        office = self.office
        if head in ("ask", "quiet"):
            return {True: "yes", False: "no"}[office.asked(self.names.index(rest[0]) if rest else None)]
        if head == "came":
            return f"{office.came(int(rest[0]))}"
        if head == "why":
            return "{} {} {} {}".format(*["-" if number is None else number for number in office.paper()])
        if head == "worth":
            return "{} of {}".format(office.table[0][office.seats], office.scales[0])
        return f"{ {'left': office.left, 'turns': office.turn, 'coins': office.coins}[head]() }"


class DeskTest(unittest.TestCase):
    def run_rows(self, script):
        """Tells the rows to a new desk; each is followed by its answer or refusal."""
        desk = Desk()
        for row, told in script:
            with self.subTest(row=row):
                self.assertEqual(outcome(desk, row), told)
        return desk

    def gathered(self, rows):
        return self.run_rows([(row, "ok") for row in rows])

    def opened(self, rows=GATHERED, seats=2):
        return self.gathered(list(rows) + [f"open {seats}"])

    def refuse(self, error, desk, rows):
        for row in rows:
            with self.subTest(row=row):
                self.assertIs(outcome(desk, row), error)


class AnswersTest(DeskTest):
    def test_a_sale_from_the_beginning_to_the_end(self):
        self.run_rows([(row, "ok") for row in GATHERED] + [
            ("open 2", "ok"), ("worth", "480000 of 2400"),
            ("left", "2"), ("turns", "0"), ("coins", "0"), ("why", Early),
            ("ask second", "no"), ("why", "0 2 180 120"),
            ("left", "2"), ("turns", "1"), ("coins", "0"), ("came 0", Early),
            ("ask first", "yes"), ("why", "1 2 0 300"), ("left", "1"), ("turns", "2"), ("coins", "300"),
            ("ask first", Over), ("quiet", Over), ("ask third", NoClass), ("came 2", TooMany),
            ("came 1", "300"), ("came 1", Done), ("coins", "300"), ("worth", "480000 of 2400"), ("why", "1 2 0 300")])

    def test_nobody_and_a_seat_too_many(self):
        self.run_rows([(row, "ok") for row in GATHERED] + [
            ("open 2", "ok"), ("quiet", "no"), ("why", "0 2 180 -"), ("turns", "1"), ("left", "2"),
            ("quiet", "no"), ("why", "1 2 0 -"), ("turns", "2"), ("came 0", "0"), ("coins", "0")])

    def test_no_seats_left(self):
        desk = self.opened(["class a 10", "turn 1 1", "turn 1 1", "turn 1 1"], 1)
        rows = ["ask a", "ask a", "why", "quiet", "why"]
        self.assertEqual([desk.say(row) for row in rows], ["yes", "no", "1 0 - 10", "no", "2 0 - -"])

    def test_numbers_below_nought(self):
        self.run_rows([("class a 10", "ok"), ("turn 1 1", "ok"), ("turn 1 1", "ok"), ("rule 1 0 1 1000000", "ok"),
                       ("open 2", "ok"), ("ask a", "yes"), ("ask a", "yes"), ("coins", "20"), ("came 2", "-999980"),
                       ("coins", "-999980"), ("left", "0"), ("turns", "2")])

    def test_a_least_fare_and_a_worth_below_nought(self):
        # No rule leads there, so the table is put in by hand.
        desk = self.opened(["class a 10", "turn 1 1"], 1)
        desk.office.table[0][1] = -7
        desk.office.table[1] = [0, -3]
        self.assertEqual(desk.say("worth"), "-7 of 2")
        self.assertEqual(desk.say("ask a"), "yes")
        self.assertEqual(desk.say("why"), "0 1 -3 10")

    def test_no_turns(self):
        self.run_rows([("class a 10", "ok"), ("rule 0 3 5 7", "ok"), ("open 3", "ok"), ("worth", "0 of 125"),
                       ("turns", "0"), ("left", "3"), ("coins", "0"), ("why", Early),
                       ("ask a", Over), ("quiet", Over), ("ask b", NoClass), ("came 1", TooMany),
                       ("came 0", "0"), ("came 0", Done), ("why", Early), ("worth", "0 of 125")])

    def test_no_seats(self):
        self.run_rows([("class a 10", "ok"), ("turn 3 4", "ok"), ("open 0", "ok"), ("worth", "0 of 7"), ("ask a", "no"),
                       ("why", "0 0 - 10"), ("left", "0"), ("came 0", "0")])

    def test_the_classes_keep_their_order(self):
        for names in itertools.permutations(["zed", "a", "mid"]):
            classes = [f"class {name} {fare}" for name, fare in zip(names, (7, 8, 9))]
            desk = self.opened(classes + ["turn 1 1 1 1"] * 3, 3)
            for name, fare in zip(names, (7, 8, 9)):
                self.assertEqual(desk.say("ask " + name), "yes")
                self.assertEqual(desk.say("why").split(" ")[3], str(fare))

    def test_each_weight_is_that_of_its_class(self):
        for row, worth in (("turn 1 0 0", "10 of 1"), ("turn 0 1 0", "25 of 1"), ("turn 0 0 1", "0 of 1"),
                           ("turn 3 2 4", "80 of 9")):
            self.assertEqual(self.opened(["class a 10", "class b 25", row], 1).say("worth"), worth)

    def test_the_last_rule_told_holds_wherever_it_is_told(self):
        # Half of two turns bring 10 coins each; each seat sold costs nothing, or 4, or 4 at every other time.
        free, dear, half = "rule 2 1 1 4", "rule 0 1 1 4", "rule 0 1 2 4"
        for rules, worth in (([], "40 of 4"), ([dear], "24 of 4"), ([free], "40 of 4"), ([half], "128 of 16"),
                             ([dear, free], "40 of 4"), ([free, dear], "24 of 4"), ([dear, free, half], "128 of 16"),
                             ([dear, dear], "24 of 4")):
            for places in itertools.combinations_with_replacement(range(4), len(rules)):
                rows = ["class a 10", "turn 1 1", "turn 1 1"]
                for place, rule in zip(places, rules):
                    rows.insert(place + len(rows) - 3, rule)
                with self.subTest(rows=rows):
                    self.assertEqual(self.opened(rows, 2).say("worth"), worth)

    def test_a_rule_refused_leaves_the_one_told(self):
        self.run_rows([("class a 10", "ok"), ("turn 1 1", "ok"), ("rule 0 1 1 4", "ok"), ("rule 11 1 1 4", NoSale),
                       ("rule 2 1 1", NoRow), ("open 1", "ok"), ("worth", "6 of 2")])

    def test_where_no_rule_is_told_all_who_come_have_seats(self):
        for seats in range(11):
            desk = self.opened(["class a 10"] + ["turn 1 0"] * 8, seats)
            for turn in range(8):
                self.assertEqual(desk.say("ask a"), "yes" if turn < seats else "no")
            self.assertEqual(desk.say(f"came {min(seats, 8)}"), str(10 * min(seats, 8)))
            self.assertEqual(desk.say("worth"), f"{10 * min(seats, 8)} of 1")

    def test_a_name_may_be_a_word_of_a_row(self):
        for word in "class turn rule open ask quiet came left turns coins why worth of ok".split(" "):
            self.run_rows([(f"class {word} 5", "ok"), (f"class {word} 5", Twice), ("turn 1 1", "ok"), ("open 1", "ok"),
                           (f"ask {word}", "yes"), ("why", "0 1 0 5"), ("came 1", "5")])

    def test_two_desks_do_not_touch_one_another(self):
        one, other = Desk(), Desk()
        self.assertEqual(one.say("class a 5"), "ok")
        self.assertIs(outcome(other, "turn 1 1"), NoTurn)
        self.assertEqual(other.say("class a 6"), "ok")
        self.assertEqual(one.say("turn 1 1"), "ok")
        self.assertEqual(one.say("open 1"), "ok")
        self.assertIs(outcome(other, "left"), NoRow)
        self.assertEqual(other.say("open 2"), "ok")
        self.assertEqual((one.say("left"), other.say("left")), ("1", "2"))

    def test_whole_sales_as_the_office_tells_them(self):
        chance = random.Random(18)
        for made in itertools.chain(small_offices(), great_offices()):
            desk, office = Desk(), Office(*made)
            for row in rows_of(*made):
                self.assertEqual(desk.say(row), "ok")
            for turn in made[2]:
                asker = chance.choice(list(range(len(made[1]))) + [None])
                told = "yes" if office.asked(asker) else "no"
                self.assertEqual(desk.say("quiet" if asker is None else f"ask {LETTERS[asker]}"), told)
                self.assertEqual(desk.say("why"), " ".join(str(part) for part in office.paper()).replace("None", "-"))
                self.assertEqual(desk.say("left"), str(office.left()))
                self.assertEqual(desk.say("turns"), str(office.turn()))
                self.assertEqual(desk.say("coins"), str(office.coins()))
            number = chance.randint(0, made[0] - office.left())
            self.assertEqual(desk.say(f"came {number}"), str(office.came(number)))


class NoRowTest(DeskTest):
    def test_texts_that_are_no_rows(self):
        wrong = ["", " ", "  ", "\n", "\t", "nothing", "CLASS a 5", "Class a 5", "classes", "turn\t1 1", "class\ta 5"]
        for desk in (Desk(), self.gathered(GATHERED), self.opened()):
            self.refuse(NoRow, desk, wrong)

    def test_first_words_that_are_none(self):
        for rows, make in ((AHEAD, lambda: self.gathered(["class first 5", "class second 6"])), (BEHIND, self.opened)):
            desk = make()
            for row in rows:
                head, blank, rest = row.partition(" ")
                for other in (head + "s", head + "x", "a" + head, "z" + head, head[:-1], head[1:], head.upper(), "0"):
                    if other not in ("turn", "turns"):
                        self.refuse(NoRow, desk, [other + blank + rest])

    def test_blanks_and_line_ends_in_each_row(self):
        for rows, make in ((AHEAD, lambda: self.gathered(["class first 5", "class second 6"])), (BEHIND, self.opened)):
            for row in rows:
                desk = make()
                self.refuse(NoRow, desk, [" " + row, row + " ", "\n" + row, "\t" + row])
                self.refuse(NoRow, desk, [row.replace(" ", "  ", 1)] if " " in row else [])
                self.refuse(NoRow, desk, [row.replace(" ", "\t", 1)] if " " in row else [])
                # An asker's name may be any word, with a line end, too.
                self.assertIs(outcome(desk, row + "\n"), NoClass if row.startswith("ask") else NoRow)

    def test_a_word_too_many_and_one_too_few(self):
        desk = self.gathered(["class first 5", "class second 6"])
        self.refuse(NoRow, desk, ["class", "class third", "class third 5 5", "class third 5 x", "turn"])
        self.refuse(NoRow, desk, ["rule", "rule 1 1 1", "rule 1 1 1 1 1", "open", "open 2 2", "open 2 x"])
        desk = self.opened()
        self.refuse(NoRow, desk, ["ask", "ask first second", "ask first 1", "came", "came 0 0"])
        for word in ("quiet", "left", "turns", "coins", "why", "worth"):
            self.refuse(NoRow, desk, [word + " 1", word + " x", word + " first", word + " " + word])

    def test_the_wrong_side_of_open(self):
        self.refuse(NoRow, Desk(), BEHIND)
        self.refuse(NoRow, self.gathered(GATHERED), BEHIND)
        desk = self.opened()
        self.refuse(NoRow, desk, AHEAD + ["open 11", "class first 300", "turn 1", "rule 11 1 1 1"])
        desk.say("quiet")
        desk.say("quiet")
        self.refuse(NoRow, desk, AHEAD)
        desk.say("came 0")
        self.refuse(NoRow, desk, AHEAD)

    def test_words_that_ought_to_be_numbers(self):
        for word in ("00", "01", "12345678", "-1", "+1", "x", "1.0", "1_0", "1\n", "\t1", "-", "1e1"):
            desk = self.gathered(["class first 5", "class second 6"])
            self.refuse(NoRow, desk, [f"class third {word}", f"class first {word}", f"open {word}"])
            for place in range(4):
                words = ["1"] * 4
                words[place] = word
                self.refuse(NoRow, desk, ["rule " + " ".join(words), "turn " + " ".join(words)])
            self.refuse(NoRow, desk, [f"turn {word}"])
            self.refuse(NoRow, self.opened(), [f"came {word}"])

    def test_names_to_come(self):
        for name in ("abcdefghi", "A", "First", "a1", "1", "a_b", "a\n", "\ta", "-", "a-b"):
            self.refuse(NoRow, self.gathered(GATHERED), [f"class {name} 5", f"class {name} 0", f"class {name} x"])
        self.gathered(["class a 5", "class abcdefgh 5", "class zzzzzzzz 1"])


class RefusedTest(DeskTest):
    def test_twice(self):
        # Behind a turn, with six classes, with a fare out of its bounds, too.
        full = [f"class {letter} 5" for letter in LETTERS]
        for rows in (["class a 5"], ["class a 5", "turn 1 1"], full, full + ["turn 1 1 1 1 1 1 1"]):
            self.refuse(Twice, self.gathered(rows), ["class a 5", "class a 6", "class a 0", "class a 1000001"])

    def test_a_class_refused_may_be_told_again(self):
        self.run_rows([("class a 0", NoSale), ("class a 5", "ok"), ("class a 5", Twice)])

    def test_a_turn_without_classes(self):
        self.refuse(NoTurn, Desk(), ["turn 1", "turn 0", "turn 1 1", "turn 1001", "turn 1 1 1 1 1 1 1 1 1"])
        self.refuse(NoTurn, self.gathered(["rule 1 1 1 1"]), ["turn 1"])

    def test_a_turn_with_too_few_or_too_many_weights(self):
        for classes in range(1, 7):
            for turns in range(9):
                desk = self.gathered([f"class {LETTERS[place]} 5" for place in range(classes)])
                for turn in range(turns):
                    self.assertEqual(desk.say("turn 1" + " 1" * classes), "ok")
                for many in [many for many in range(1, 10) if many != classes + 1]:
                    self.refuse(NoTurn, desk, ["turn" + f" {weight}" * many for weight in (0, 1, 1001)])

    def test_a_class_behind_a_turn(self):
        full = [f"class {letter} 5" for letter in LETTERS]
        for rows in (["class a 5", "turn 1 1"], full + ["turn 1 1 1 1 1 1 1"]):
            self.refuse(NoTurn, self.gathered(rows), ["class new 5", "class new 0", "class new 1000001"])

    def test_a_seventh_class(self):
        desk = self.gathered([f"class {letter} 5" for letter in LETTERS])
        self.refuse(Full, desk, ["class g 5", "class g 0", "class g 1000001"])
        self.assertEqual(desk.say("open 1"), "ok")

    def test_a_ninth_turn(self):
        desk = self.gathered(["class a 5"] + ["turn 1 1"] * 8)
        self.refuse(Full, desk, ["turn 1 1", "turn 0 0", "turn 1001 1"])
        self.refuse(NoTurn, desk, ["turn 1", "turn 1 1 1", "class b 5"])
        self.assertEqual(desk.say("open 1"), "ok")
        for turn in range(8):
            self.assertEqual(desk.say("quiet"), "no")
        self.refuse(Over, desk, ["quiet"])

    def test_fares(self):
        self.refuse(NoSale, Desk(), ["class a 0", "class a 1000001", "class a 9999999"])
        self.gathered(["class a 1", "class b 1000000"])

    def test_weights(self):
        desk = self.gathered(["class a 5", "class b 6"])
        self.refuse(NoSale, desk, ["turn 0 0 0", "turn 1001 1 1", "turn 1 1001 1", "turn 1 1 1001", "turn 0 0 9999999"])
        for row in ("turn 0 0 1", "turn 1 0 0", "turn 1000 1000 1000"):
            self.assertEqual(desk.say(row), "ok")

    def test_rules(self):
        for desk in (Desk(), self.gathered(GATHERED)):
            self.refuse(NoSale, desk, ["rule 11 1 1 1", "rule 1 2 1 1", "rule 1 0 0 1", "rule 1 1 1001 1"])
            self.refuse(NoSale, desk, ["rule 1 1 1 1000001", "rule 1 1001 1000 1", "rule 9999999 1 1 1"])
            for row in ("rule 0 0 1 0", "rule 10 1000 1000 1000000", "rule 10 0 1000 0"):
                self.assertEqual(desk.say(row), "ok")

    def test_open(self):
        self.refuse(NoSale, Desk(), ["open 0", "open 5", "open 10", "open 11"])
        self.refuse(NoSale, self.gathered(["rule 1 1 1 1"]), ["open 0", "open 5"])
        for rows in (["class a 5"], GATHERED):
            self.refuse(NoSale, self.gathered(rows), ["open 11", "open 12", "open 9999999"])
            for seats in range(11):
                self.assertEqual(self.opened(rows, seats).say("left"), str(seats))

    def test_open_refused_leaves_all_as_it_was(self):
        self.run_rows([("open 5", NoSale), ("left", NoRow), ("class a 5", "ok"), ("open 11", NoSale), ("left", NoRow),
                       ("class b 6", "ok"), ("turn 1 1 1", "ok"), ("open 11", NoSale), ("turn 1 2 1", "ok"),
                       ("open 10", "ok"), ("left", "10")])

    def test_no_class(self):
        names = ["third", "FIRST", "First", "firs", "firsts", "1", "0", "-1", "-", "first\n", "\tfirst", "a" * 9, "ask"]
        desk = self.opened()
        for turn in ("0", "1", "2"):
            self.assertEqual(desk.say("turns"), turn)
            self.refuse(NoClass, desk, ["ask " + name for name in names])
            outcome(desk, "quiet")
        desk.say("came 0")
        self.refuse(NoClass, desk, ["ask " + name for name in names])
        self.refuse(Over, desk, ["ask first", "ask second", "quiet"])

    def test_as_the_office_refuses(self):
        desk = self.opened()
        self.refuse(Early, desk, ["why", "came 0", "came 9999999"])
        self.assertEqual(desk.say("ask first"), "yes")
        self.refuse(Early, desk, ["came 0", "came 1", "came 9999999"])
        self.assertEqual(desk.say("quiet"), "no")
        self.refuse(TooMany, desk, ["came 2", "came 9999999"])
        self.refuse(Over, desk, ["ask first", "quiet"])
        self.assertEqual(desk.say("came 1"), "300")
        self.refuse(Done, desk, ["came 0", "came 1", "came 2"])
        self.refuse(Over, desk, ["ask first", "quiet"])
        self.assertEqual(desk.say("why"), "1 1 405 -")


class ChanceTest(DeskTest):
    """Rows by chance, many of them wrong, against the document's order of the refusals."""

    def random_row(self, chance, behind):
        numbers = ["0", "1", "2", "3", "10", "11", "500", "1000", "1001", "1000000", "1000001", "01", "x", "12345678"]
        few = numbers[:4]
        names = ["a", "b", "c", "d", "e", "f", "g", "class", "abcdefghi", "A"]
        head = chance.choice(["class", "turn", "turn", "rule", "open", "quiet"] if not behind else
                             ["ask", "ask", "quiet", "came", "left", "turns", "coins", "why", "worth", "open", "turn"])
        lengths = {"class": 2, "rule": 4, "open": 1, "ask": 1, "came": 1, "turn": chance.randint(1, 8)}
        many = max(lengths.get(head, 0) + chance.choice([0] * 12 + [1, -1]), 0)
        words = [chance.choice(few if chance.randint(0, 9) else numbers) for word in range(many)]
        if head in ("class", "ask") and words:
            words[0] = chance.choice(names)
        return chance.choice([" "] * 60 + ["  "]).join([head] + words)

    def test_rows_by_chance(self):
        chance = random.Random(19)
        seen = set()
        for go in range(400):
            desk, model = Desk(), Model()
            for step in range(60):
                behind = model.office is not None
                row = self.random_row(chance, behind)
                if not behind and step < 25 and row.startswith("open"):
                    continue
                # Else hardly a turn would have just as many weights as there are classes.
                if row.startswith("turn") and chance.randint(0, 2):
                    row = "turn" + "".join(f" {chance.randint(0, 3)}" for weight in range(len(model.names) + 1))
                asked = outcome(model, row)
                self.assertEqual(outcome(desk, row), asked, row)
                seen.add(asked if isinstance(asked, type) else row.split(" ")[0])
        self.assertEqual(seen - {"turn"}, {
            NoRow, Twice, NoTurn, Full, NoSale, NoClass, Over, Early, Done, TooMany,
            "class", "rule", "open", "ask", "quiet", "came", "left", "turns", "coins", "why", "worth"})

    def test_what_is_refused_changes_nothing(self):
        looks = ["left", "turns", "coins", "why", "worth"]
        chance = random.Random(20)
        for made in itertools.chain(small_offices(), great_offices()):
            tried, spared = Desk(), Desk()
            for row in rows_of(*made):
                self.refuse_all(tried, NEVER_AHEAD)
                self.assertEqual(tried.say(row), spared.say(row))
            for turn in made[2]:
                ask = f"ask {LETTERS[chance.randrange(len(made[1]))]}"
                for row in looks + [ask] + looks:
                    self.refuse_all(tried, NEVER_BEHIND)
                    self.assertEqual(outcome(tried, row), outcome(spared, row))
            for row in looks + ["came 0"] + looks:
                self.refuse_all(tried, NEVER_BEHIND + ["ask a", "quiet"])
                self.assertEqual(outcome(tried, row), outcome(spared, row))
            self.refuse_all(tried, NEVER_BEHIND + ["ask a", "quiet", "came 0"])

    def refuse_all(self, desk, rows):
        for row in rows:
            self.assertTrue(isinstance(outcome(desk, row), type), row)


if __name__ == "__main__":
    unittest.main()
