"""Whole numbers: what the other modules ask of them."""


def is_within(number, least, most):
    # Python counts True and False among its ints; here they are no whole numbers.
    return isinstance(number, int) and not isinstance(number, bool) and least <= number <= most


def power(base, times):
    product = 1
    for step in range(times):
        product = product * base
    return product
