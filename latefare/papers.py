"""Papers: a table of worths that is handed in, looked through from the end."""

from latefare.sales import scales_of
from latefare.worths import row_worths


def first_wrong(fares, turns, last, ends, table):
    scales = scales_of(turns, last)
    for t in range(len(turns), -1, -1):
        wrong = wrong_places(table[t], asked_list(fares, turns, scales, ends, table, t))
        if len(wrong) > 0:
            return (t, wrong[0])
    return None


def asked_list(fares, turns, scales, ends, table, t):
    # The table's own next list is asked, right or wrong: each list is held to that one alone.
    if t == len(turns):
        return ends
    return row_worths(fares, turns[t], scales[t + 1], table[t + 1])


def wrong_places(numbers, asked):
    return [s for s in range(len(asked)) if numbers[s] != asked[s]]
