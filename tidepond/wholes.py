"""Divisors and multiples of whole numbers."""


def greatest_divisor(one, other):
    while other != 0:
        rest = one % other
        one = other
        other = rest
    return one


def least_multiple(one, other):
    return one // greatest_divisor(one, other) * other
