"""Sales to try, and what the document asks of them, worked out another way than the program does."""

import fractions
import itertools
import math
import random

GREAT = 10 ** 50
LONG = 10 ** 120 - 1
LETTERS = "abcdef"
# The scales are 24, 4, 1; so the first list counts fares of 300 and 120 as 1200 and 480.
SALE = ([300, 120], [[1, 3, 2], [2, 1, 1]], 1, [0, 0, 0])
TOLD = [[0, 4800, 6960], [0, 720, 720], [0, 0, 0]]


def random_sale(chance, classes, turns, seats, greatest):
    """A sale (fares, turns, last, ends); the ends are some whole numbers from -greatest to greatest."""
    fares = [chance.choice([1, 10 ** 6, chance.randint(1, 20), chance.randint(1, 10 ** 6)]) for place in range(classes)]
    rows = []
    while len(rows) < turns:
        row = [chance.choice([0, 0, 1, 1000, chance.randint(0, 9)]) for place in range(classes + 1)]
        if any(row):
            rows.append(row)
    last = chance.choice([1, 2, 10 ** 40, chance.randint(1, 100)])
    ends = [chance.randint(-greatest, greatest) for s in range(seats + 1)]
    return fares, rows, last, ends


def small_sales():
    """Sales of few turns: all rows of askers can be gone through."""
    chance = random.Random(6)
    sizes = ((1, 0, 0), (2, 0, 3), (1, 1, 0), (1, 1, 1), (2, 2, 1), (2, 3, 2), (3, 3, 2), (2, 4, 3))
    for classes, turns, seats in sizes:
        for greatest in (0, 30, 10 ** 7, GREAT):
            yield random_sale(chance, classes, turns, seats, greatest)


def great_sales():
    """Sales at the bounds of the document."""
    chance = random.Random(7)
    yield [10 ** 6] * 6, [[1000] * 7] * 8, 10 ** 40, [GREAT, -GREAT] * 5 + [GREAT]
    yield [1, 2, 3, 4, 5, 6], [[1, 0, 2, 0, 3, 0, 1000]] * 8, 1, [0] * 11
    for classes, turns, seats in ((6, 8, 10), (6, 8, 0), (1, 8, 10), (6, 1, 10), (6, 0, 10), (4, 8, 1), (3, 7, 9)):
        for greatest in (0, 30, 10 ** 7, GREAT):
            yield random_sale(chance, classes, turns, seats, greatest)


def falling_sales():
    """Sales whose ends have falling steps."""
    chance = random.Random(8)
    for classes, turns, seats in ((1, 1, 1), (2, 2, 2), (3, 3, 4), (6, 8, 10), (6, 8, 10), (2, 8, 10)):
        for greatest in (0, 30, 10 ** 7, 10 ** 48):
            fares, rows, last, ends = random_sale(chance, classes, turns, seats, greatest)
            steps = sorted(ends[1:], reverse=True)
            yield fares, rows, last, list(itertools.accumulate(steps, initial=ends[0]))


def small_offices():
    """What small offices are made of (seats, fares, turns, rule): all rows of askers can be gone through."""
    chance = random.Random(10)
    sizes = ((1, 0, 0), (2, 0, 3), (1, 1, 0), (1, 1, 1), (2, 2, 1), (2, 3, 2), (3, 3, 3), (2, 4, 3), (2, 4, 10))
    for classes, turns, seats in sizes:
        for due in (0, 15, 400000, 10 ** 6):
            fares, rows, last, ends = random_sale(chance, classes, turns, seats, 0)
            yield seats, fares, rows, random_rule(chance, due)
    # Fares and dues near one another, so that the dues tell whom to take.
    for room, chances, due in itertools.product((0, 1, 2), ((1, 1), (1, 2), (9, 10)), (8, 30)):
        yield 3, [20, 7], [[2, 3, 1], [1, 4, 0], [3, 1, 2]], (room,) + chances + (due,)


def great_offices():
    """What offices at the bounds of the document are made of."""
    chance = random.Random(11)
    yield 10, [10 ** 6] * 6, [[1000] * 7] * 8, (10, 1000, 1000, 10 ** 6)
    yield 10, [1, 2, 3, 4, 5, 6], [[1, 0, 2, 0, 3, 0, 1000]] * 8, (0, 1, 1000, 10 ** 6)
    for classes, turns, seats in ((6, 8, 10), (6, 8, 0), (1, 8, 10), (6, 8, 5), (6, 0, 10), (4, 8, 1), (3, 7, 3)):
        for due in (0, 15, 400000, 10 ** 6):
            fares, rows, last, ends = random_sale(chance, classes, turns, seats, 0)
            yield seats, fares, rows, random_rule(chance, due)


def random_rule(chance, due):
    of = chance.choice([1, 2, 10, 1000])
    return (chance.choice([0, 0, 1, 2, 3, 10]), chance.randint(0, of), of, due)


def rows_of(seats, fares, turns, rule):
    """What a desk is told for such an office; the classes are called by letters."""
    rows = [f"class {LETTERS[place]} {fare}" for place, fare in enumerate(fares)]
    rows += ["turn " + " ".join(str(weight) for weight in row) for row in turns]
    return rows + ["rule " + " ".join(str(number) for number in rule), f"open {seats}"]


def asked_shows(sold, came, of):
    return [math.comb(sold, many) * came ** many * (of - came) ** (sold - many) for many in range(sold + 1)]


def asked_ends(seats, rule):
    return [asked_end(seats, left, rule) for left in range(seats + 1)]


def asked_end(seats, left, rule):
    room, came, of, due = rule
    beyond = 0
    for many, weight in enumerate(asked_shows(seats - left, came, of)):
        if many > room:
            beyond += weight * (many - room)
    return -due * beyond * of ** left


def all_askers(fares, turns):
    """All lists of askers, those of weight 0 too."""
    return itertools.product(list(range(len(fares))) + [None], repeat=len(turns))


def asked_worths(fares, turns, last, ends):
    """The worths by mean coins at each stand, as fractions, brought to the scale only at the end."""
    table = []
    for t, numbers in enumerate(mean_worths(fares, turns, last, ends)):
        scale = last * math.prod(sum(row) for row in turns[t:])
        table.append([whole(scale * number) for number in numbers])
    return table


def mean_worths(fares, turns, last, ends):
    """The mean coins at each stand."""
    means = [[fractions.Fraction(end, last) for end in ends]]
    for row in reversed(turns):
        behind = means[0]
        means.insert(0, [mean_of(fares, row, behind, s) for s in range(len(ends))])
    return means


def mean_of(fares, row, behind, s):
    mean = fractions.Fraction(row[-1], sum(row)) * behind[s]
    for place, fare in enumerate(fares):
        choices = [behind[s]] + ([behind[s - 1] + fare] if s else [])
        mean += fractions.Fraction(row[place], sum(row)) * max(choices)
    return mean


def whole(number):
    if number.denominator != 1:
        raise ArithmeticError("no whole number")
    return number.numerator


def summed_worths(fares, turns, last, ends, way):
    """The worths of a way by going through all rows of askers that can come, at each stand."""
    return [[summed(fares, turns, last, ends, way, t, s) for s in range(len(ends))] for t in range(len(turns) + 1)]


def summed(fares, turns, last, ends, way, first, seats):
    together = 0
    for askers in itertools.product(range(len(fares) + 1), repeat=len(turns) - first):
        weight = 1
        coins = 0
        left = seats
        for t, asker in enumerate(askers, start=first):
            weight *= turns[t][asker]
            if left > 0 and asker < len(fares) and asker in way[t][left]:
                coins += fares[asker]
                left -= 1
        together += weight * (coins * last + ends[left])
    return together


def some_ways(sale, many):
    """Ways that take nobody, everybody, and some by chance (for no seats left, too)."""
    fares, turns, last, ends = sale
    chance = random.Random(9)
    yield even_way(sale, [])
    yield even_way(sale, list(range(len(fares))))
    for number in range(many):
        yield [[[place for place in range(len(fares)) if chance.randint(0, 1)] for end in ends] for row in turns]


def even_way(sale, taken):
    fares, turns, last, ends = sale
    return [[list(taken) for end in ends] for row in turns]


def all_ways(sale):
    fares, turns, last, ends = sale
    choices = []
    for many in range(len(fares) + 1):
        choices.extend(list(chosen) for chosen in itertools.combinations(range(len(fares)), many))
    for listed in itertools.product(choices, repeat=len(turns) * len(ends)):
        yield [list(listed[t * len(ends):(t + 1) * len(ends)]) for t in range(len(turns))]


def lists_in(value):
    """The list handed in and every list within it."""
    found = []
    if isinstance(value, (list, tuple)):
        found = [value] if isinstance(value, list) else []
        for part in value:
            found.extend(lists_in(part))
    return found


def are_all_new(given, handed_in):
    """Whether no list given is another one of those given, or one of those handed in."""
    own = [id(part) for part in lists_in(given)]
    return len(set(own)) == len(own) and not set(own) & {id(part) for part in lists_in(handed_in)}


def spoil(value):
    """Changes every list within the one handed in, and that one, too."""
    for part in lists_in(value):
        part.append(77)
        part[0] = 78
        part.reverse()
