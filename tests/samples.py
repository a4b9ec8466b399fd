"""Wishes for the tests that look at many of them: the same ones in each run."""

from itertools import permutations, product


def all_wishes(count):
    return [list(rows) for rows in product(permutations(range(count)), repeat=count)]


def mixed_wishes(count, number):
    orders = list(permutations(range(count)))
    state = 12345 + count
    wishes = []
    for turn in range(number):
        rows = []
        # Fewer unlike rows make more people meet at one thing.
        kinds = 2 + turn % len(orders)
        for person in range(count):
            state = (state * 1103515245 + 12345) % 2 ** 31
            rows.append(orders[(state >> 8) % kinds * 7 % len(orders)])
        wishes.append(rows)
    return wishes


def many_wishes():
    wishes = all_wishes(1) + all_wishes(2) + all_wishes(3)
    for count in (4, 5, 6):
        wishes = wishes + mixed_wishes(count, 150)
    return wishes
