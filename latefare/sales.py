"""Sales: seats, fares and turns, and the scales that the turns' weights make."""

from latefare.wholes import is_within

MOST_SEATS = 10
MOST_FARES = 6
MOST_FARE = 1000000
MOST_TURNS = 8
MOST_WEIGHT = 1000


def is_sale(seats, fares, turns):
    return is_within(seats, 0, MOST_SEATS) and are_fares(fares) and are_turns(turns, len(fares))


def are_fares(fares):
    return 1 <= len(fares) <= MOST_FARES and all([is_within(fare, 1, MOST_FARE) for fare in fares])


def are_turns(turns, classes):
    return len(turns) <= MOST_TURNS and all([is_row(row, classes) for row in turns])


def is_row(row, classes):
    # The one weight more than there are classes is that of nobody.
    if len(row) != classes + 1:
        return False
    return all([is_within(weight, 0, MOST_WEIGHT) for weight in row]) and total_of(row) > 0


def total_of(row):
    return sum(row)


def scales_of(turns, last):
    # Each scale hangs on the one behind it, so they are made from the end.
    scales = [last]
    for row in reversed(turns):
        scales.append(scales[-1] * total_of(row))
    return list(reversed(scales))
