"""Worths: what each stand, a turn and the seats left, is worth in the scale of its turn."""

from latefare.sales import scales_of


def worths_of(fares, turns, last, ends):
    # Each list hangs on the one behind it, so they are made from the end.
    scales = scales_of(turns, last)
    table = [list(ends)]
    for t in range(len(turns) - 1, -1, -1):
        table.append(row_worths(fares, turns[t], scales[t + 1], table[-1]))
    return list(reversed(table))


def row_worths(fares, row, scale, behind):
    return [stand_worth(fares, row, scale, behind, s) for s in range(len(behind))]


def stand_worth(fares, row, scale, behind, s):
    return weighed(row, [class_worth(fare, scale, behind, s) for fare in fares], behind[s])


def weighed(row, classes, kept):
    # Where nobody comes all seats are kept, and the last weight of a row is that of nobody.
    return sum([weight * worth for weight, worth in zip(row, classes + [kept])])


def class_worth(fare, scale, behind, s):
    if s == 0:
        return behind[s]
    return max(behind[s], sold_worth(fare, scale, behind, s))


def sold_worth(fare, scale, behind, s):
    # A fare is in coins, the list in the next scale: only in one scale can they be summed.
    return fare * scale + behind[s - 1]
