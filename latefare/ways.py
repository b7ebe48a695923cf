"""Ways: whom to take at each turn and with so many seats left, and what that is worth."""

from latefare.rules import is_taken
from latefare.sales import scales_of
from latefare.worths import sold_worth, weighed, worths_of


def way_worths(fares, turns, last, ends, way):
    scales = scales_of(turns, last)
    table = [list(ends)]
    for t in range(len(turns) - 1, -1, -1):
        table.append(way_row_worths(fares, turns[t], scales[t + 1], table[-1], way[t]))
    return list(reversed(table))


def way_row_worths(fares, row, scale, behind, takes):
    return [way_stand_worth(fares, row, scale, behind, s, takes[s]) for s in range(len(behind))]


def way_stand_worth(fares, row, scale, behind, s, taken):
    # With no seats left nobody is taken, whomever the way lists there.
    if s == 0:
        taken = []
    kept = behind[s]
    classes = [sold_worth(fare, scale, behind, s) if place in taken else kept for place, fare in enumerate(fares)]
    return weighed(row, classes, kept)


def best_way(fares, turns, last, ends):
    scales = scales_of(turns, last)
    table = worths_of(fares, turns, last, ends)
    return [best_takes(fares, scales[t + 1], table[t + 1]) for t in range(len(turns))]


def best_takes(fares, scale, behind):
    return [taken_classes(fares, scale, behind, s) for s in range(len(behind))]


def taken_classes(fares, scale, behind, s):
    return [place for place, fare in enumerate(fares) if is_taken(fare, scale, behind, s)]
