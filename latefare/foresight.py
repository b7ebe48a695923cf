"""Foresight: what one would get who knew all askers ahead."""

from latefare.sales import total_of
from latefare.shows import with_one_more


def weight_of(turns, askers):
    weight = 1
    for row, asker in zip(turns, askers):
        weight = weight * asker_weight(row, asker)
    return weight


def asker_weight(row, asker):
    # The last weight of a row is that of nobody.
    return row[-1] if asker is None else row[asker]


def known_best(seats, fares, askers):
    asked = [fares[asker] for asker in askers if asker is not None]
    return sum(sorted(asked, reverse=True)[:seats])


def foresight_of(seats, fares, turns):
    # A fare is the sum of the steps up to it, from fare to fare. A step is paid by all who pay that fare or more,
    # but by no more than there are seats; so how many these are is enough, and no list of askers is gone through.
    together = 0
    below = 0
    for fare in sorted(fares):
        together = together + (fare - below) * seated(seats, numbers_of_dear(fares, turns, fare))
        below = fare
    return together


def numbers_of_dear(fares, turns, least):
    # For each number of askers that pay the least fare or more, the weight with which just so many of them come.
    weights = [1]
    for row in turns:
        dear = sum([weight for fare, weight in zip(fares, row) if fare >= least])
        weights = with_one_more(weights, dear, total_of(row) - dear)
    return weights


def seated(seats, weights):
    return sum([weight * min(many, seats) for many, weight in enumerate(weights)])
