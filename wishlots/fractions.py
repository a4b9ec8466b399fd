"""Exact fractions: tuples (top, bottom) of whole numbers in lowest terms, the bottom from 1 on."""

from wishlots.errors import NoFraction

NOTHING = (0, 1)
WHOLE = (1, 1)


def is_whole(value):
    # Python counts True and False among the ints, the document does not.
    return isinstance(value, int) and not isinstance(value, bool)


def common_divisor(one, two):
    greater = abs(one)
    smaller = abs(two)
    while smaller != 0:
        rest = greater % smaller
        greater = smaller
        smaller = rest
    return greater


def fraction(top, bottom):
    if not is_whole(top) or not is_whole(bottom) or bottom == 0:
        raise NoFraction("a fraction is made of two whole numbers, the second not 0")
    divisor = common_divisor(top, bottom)
    if bottom < 0:
        # Dividing by a number below 0 moves the sign from the bottom to the top.
        divisor = -divisor
    return (top // divisor, bottom // divisor)


def is_fraction(value):
    if not isinstance(value, tuple) or len(value) != 2:
        return False
    if not is_whole(value[0]) or not is_whole(value[1]) or value[1] < 1:
        return False
    return common_divisor(value[0], value[1]) == 1


def plus(one, two):
    return fraction(one[0] * two[1] + two[0] * one[1], one[1] * two[1])


def minus(one, two):
    return fraction(one[0] * two[1] - two[0] * one[1], one[1] * two[1])


def times(one, two):
    return fraction(one[0] * two[0], one[1] * two[1])


def before(one, two):
    return one[0] * two[1] < two[0] * one[1]


def total(parts):
    so_far = NOTHING
    for part in parts:
        so_far = plus(so_far, part)
    return so_far


def least(parts):
    smallest = parts[0]
    for part in parts:
        if before(part, smallest):
            smallest = part
    return smallest
