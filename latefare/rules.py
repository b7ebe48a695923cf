"""Rules of taking: whom it is worth to take, and from which fare on."""

from latefare.worths import sold_worth


def is_taken(fare, scale, behind, s):
    return s > 0 and sold_worth(fare, scale, behind, s) >= behind[s]


def least_fare(scale, behind, s):
    # Python's // rounds down; turning the sign ahead of it and behind it rounds up, below nought too.
    return -((behind[s - 1] - behind[s]) // scale)


def steps_fall(ends):
    steps = [number - ahead for ahead, number in zip(ends, ends[1:])]
    return all([step <= ahead for ahead, step in zip(steps, steps[1:])])
